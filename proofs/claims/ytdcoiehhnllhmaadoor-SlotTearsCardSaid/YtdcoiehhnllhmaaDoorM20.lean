/-
  Plain facts on slots: what is laid is read, what is not whole has nothing; the chapter's examples.
-/
import Derived.Test.YtdcoiehhnllhmaaDoorM19
import Derived.Test.YtdcoiehhnllhmaaDoorM17
import Derived.Test.YtdcoiehhnllhmaaDoorM18
namespace Go.Proofs.YtdcoiehhnllhmaaDoor
open Go.RowKit
set_option maxRecDepth 10000

theorem pack_rt {e : En} (he : e.fits) (h : Rt e) : packE e = ((packE e).1, 0) := by rw [← (packE_rt he h).1]
theorem seal_ok {old s : List UInt8} (h : s.length ≤ 376) : sealS old s = (layS (nextS old) s, 0) := by
  unfold sealS
  rw [if_neg (by omega)]
theorem prep_ok {e : En} (he : e.fits) (h : Rt e) (old : List UInt8) : prepS old e = (layS (nextS old) (packE e).1, 0) := by
  have h1 := packE_rt he h
  unfold prepS
  rw [if_pos h1.1, seal_ok (by omega)]
theorem prep_no {e : En} (h : ¬ Rt e) (old : List UInt8) : prepS old e = ([], 4) := by
  have h1 : packE e = ([], 4) := if_neg h
  unfold prepS
  rw [h1, if_neg (by decide)]
theorem hdr_ok {s : St} (h : SRt s) (old : List UInt8) : hdrS old s = (layS (nextS old) s.bytes, 0) := by
  unfold hdrS
  rw [if_pos h, seal_ok (by rw [sbytes_len]; omega)]
theorem void_ok (old : List UInt8) : voidS old = layS (nextS old) [] := by
  unfold voidS
  rw [seal_ok (by simp)]
theorem entry_lay {e : En} (he : e.fits) (h : Rt e) (g : UInt8) : entryS (layS g (packE e).1) = (e, true, true) := by
  have h1 := packE_rt he h
  unfold entryS
  rw [open_lay g _ (by omega)]
  simp only
  rw [if_neg (fun c => by have h2 := h1.2.1; rw [c, List.length_nil] at h2; omega), unpackE_pack he (pack_rt he h), if_pos rfl]
theorem stub_lay {s : St} (hs : s.fits) (h : SRt s) (g : UInt8) : stubT (layS g s.bytes) = (s, true, true) := by
  unfold stubT
  rw [open_lay g _ (by rw [sbytes_len]; omega)]
  simp only
  rw [if_neg (fun c => by have h2 := sbytes_len s; rw [c, List.length_nil] at h2; omega), unpackT_pack s hs h, if_pos rfl]
theorem entry_void (g : UInt8) : entryS (layS g []) = (en0, false, true) := by
  unfold entryS
  rw [open_lay g [] (by simp)]
  rfl
theorem stub_void (g : UInt8) : stubT (layS g []) = (st0, false, true) := by
  unfold stubT
  rw [open_lay g [] (by simp)]
  rfl
theorem entry_none {p : List UInt8} (h : openS p = ([], false)) : entryS p = (en0, false, false) := by
  unfold entryS
  rw [h]
  rfl
theorem stub_none {p : List UInt8} (h : openS p = ([], false)) : stubT p = (st0, false, false) := by
  unfold stubT
  rw [h]
  rfl
theorem open_noughts : openS (List.replicate 384 0) = ([], false) := by decide +kernel
/-- both rows of the table in which the header tells -/
theorem judge_holds {e : En} (h : Rt e) {p q : List UInt8} (hp : entryS p = (e, true, true)) (hq : stubT q = (stubS e, true, true)) : judgeS p q e.opn = ⟨1, stubS e, e⟩ := by
  unfold judgeS
  rw [hp, hq]
  simp only
  rw [if_pos ⟨trivial, by rw [stubS_rt h], trivial⟩]
theorem judge_lone {e : En} {p q : List UInt8} (hp : entryS p = (e, true, true)) (hq : stubT q = (st0, false, false)) : judgeS p q e.opn = ⟨1, stubS e, e⟩ := by
  unfold judgeS
  rw [hp, hq]
  simp
theorem judge_lacks {p q : List UInt8} {s : St} {b : Bool} {n : Int} (hq : stubT q = (s, b, true)) (h : b = false ∨ s.opn ≠ n) : judgeS p q n = it0 := by
  unfold judgeS
  rw [hq]
  simp only
  rw [if_neg (by rintro ⟨h1, h2, -⟩; rcases h with h | h; · rw [h1] at h; cases h
                 · exact h h2), if_neg (by rintro ⟨h1, h2⟩; rcases h with h | h; · rw [h1] at h; cases h
                                           · exact h h2), if_pos trivial]
theorem judge_void {p q : List UInt8} {e : En} {b : Bool} {n : Int} (hp : entryS p = (e, b, true)) (hq : stubT q = (st0, false, false)) (h : b = false ∨ e.opn ≠ n) : judgeS p q n = it0 := by
  unfold judgeS
  rw [hp, hq]
  simp only
  rw [if_neg (by simp), if_neg (by simp), if_neg (by simp), if_neg (by rintro ⟨h1, h2⟩; rcases h with h | h; · rw [h1] at h; cases h
                                                                       · exact h h2), if_pos trivial]
theorem judge_unsure {p q : List UInt8} {n : Int} (hp : entryS p = (en0, false, false)) (hq : stubT q = (st0, false, false)) : judgeS p q n = ⟨3, st0, en0⟩ := by
  unfold judgeS
  rw [hp, hq]
  simp
theorem judge_faulty {e : En} (h : Rt e) {p q : List UInt8} (hp : entryS p = (en0, false, false)) (hq : stubT q = (stubS e, true, true)) : judgeS p q e.opn = ⟨2, stubS e, en0⟩ := by
  have h0 : stubS en0 = st0 := if_neg (by unfold Rt en0; simp)
  have h1 := stubS_ok h
  unfold judgeS
  rw [hp, hq]
  simp only
  rw [h0, if_neg (by rintro ⟨-, -, h2⟩; rw [← h2] at h1; exact st0_not h1), if_pos ⟨trivial, by rw [stubS_rt h]⟩]
theorem noughts_any (w : World) : Calls Tryd.prog 35 #[] w (SE w (List.replicate 384 0)) := by
  obtain ⟨i0, hi, hz0, hz1, hz2⟩ := info_parts infoU8
  have b1 : Hid ((384 : Int) = ((384 : Nat) : Int)) := hid rfl
  have b2 : Hid (i0.bytes * 384 ≤ 281474976710656) := hid (by rw [hz2]; decide)
  have b3 : Hid (384 ≤ maxLen) := hid (le_maxLen (by decide))
  obtain ⟨l, hl⟩ : ∃ l : List UInt8, l = List.replicate 384 0 := ⟨_, rfl⟩
  have HL := hid hl
  rw [← hl]
  clear hl
  go_enter Tryd.func35, Tryd.ntmps35
  go_wp2_with (first
    | (with_reducible refine wpl_make rfl (.const (.int .i64 384)) (.const (.int .i64 384)) 57 rfl 5 i0 (.int .u8 0) Tryd.underlying57 hi hz0 hz1 rfl .i64 .i64 384 384 384 rfl rfl ?_ b1 b1 b2 b3; intro g w1 hg hr hbe; have hrd : Rd w1 (g + 1) (some ⟨g, 0, none⟩) (bvs l) := (by rw [HL.out, ← bvs_zero]; exact Row.rd hr (by omega)))
    | (with_reducible refine wpl_str rfl _ 57 9 rfl 5 Tryd.underlying57 Tryd.underlying5 Tryd.underlying9 (some ⟨g, 0, none⟩) 384 384 rfl (g + 1) l ?_ (hid hrd) (hid (by rw [HL.out, List.length_replicate]))))
  go_ret
  exact ⟨rfl, hbe.mono (by have := hg.out; omega)⟩
end Go.Proofs.YtdcoiehhnllhmaaDoor
/-
  The chapter's examples.
-/
namespace Go.Proofs.YtdcoiehhnllhmaaDoor
open Go.RowKit
set_option maxRecDepth 10000

def ex12 : En := ⟨0, 3, 0, 0, 1, 0, 0, 1, ⟨#[]⟩⟩
theorem ex12_rt : Rt ex12 := by unfold Rt ex12; decide
theorem ex12_fits : ex12.fits := by unfold En.fits ex12 In64; decide
set_option maxHeartbeats 1000000 in
theorem awake12_any (w : World) (hf : Fd w) : Calls Tryd.prog 10 #[] w (Yes w) := by
  have e0 : sb (⟨#[]⟩ : ByteArray) = [] := rfl
  obtain ⟨P, hP⟩ : ∃ P : ByteArray, P = ⟨(layS (nextS []) (packE ex12).1).toArray⟩ := ⟨_, rfl⟩
  obtain ⟨V, hV⟩ : ∃ V : ByteArray, V = ⟨(layS (nextS []) []).toArray⟩ := ⟨_, rfl⟩
  obtain ⟨N, hN⟩ : ∃ N : ByteArray, N = ⟨(List.replicate 384 (0 : UInt8)).toArray⟩ := ⟨_, rfl⟩
  have p1 : entryS (sb P) = (ex12, true, true) := by rw [hP, sb_mk]; exact entry_lay ex12_fits ex12_rt _
  have v2 : stubT (sb V) = (st0, false, true) := by rw [hV, sb_mk]; exact stub_void _
  have n1 : entryS (sb N) = (en0, false, false) := by rw [hN, sb_mk]; exact entry_none open_noughts
  have n2 : stubT (sb N) = (st0, false, false) := by rw [hN, sb_mk]; exact stub_none open_noughts
  have HP : Hid (∀ W : World, Fd W → Calls Tryd.prog 12 #[.string ⟨#[]⟩, .agg #[.int .i64 0, .int .i64 3, .int .i64 0, .int .u64 0, .int .i64 1, .int .i64 0, .int .i64 0, .int .i64 1, .string ⟨#[]⟩]] W fun e w' => e = .returned (.tuple #[.string P, .int .i64 0]) ∧ Below W.heap.size W w') := hid fun W hW => by
    have h := sprep_any ⟨#[]⟩ ex12 (by decide) W hW
    rw [e0, prep_ok ex12_fits ex12_rt, ] at h
    rw [hP]
    exact h
  have HV : Hid (∀ W : World, Calls Tryd.prog 18 #[.string ⟨#[]⟩] W fun e w' => e = .returned (.string V) ∧ Below W.heap.size W w') := hid fun W => by
    have h := svoid_any ⟨#[]⟩ (by decide) W
    rw [e0, void_ok] at h
    rw [hV]
    exact h
  have HN : Hid (∀ W : World, Calls Tryd.prog 35 #[] W fun e w' => e = .returned (.string N) ∧ Below W.heap.size W w') := hid fun W => by
    rw [hN]
    exact noughts_any W
  have HJ1 : Hid (∀ W : World, Fd W → Calls Tryd.prog 24 #[.string V, .string V, .int .i64 1] W (VE W (.agg it0.cells))) := hid fun W hW => by
    have h := judge_any V V 1 W hW
    rw [judge_lacks v2 (.inl rfl)] at h
    exact h
  have HJ2 : Hid (∀ W : World, Fd W → Calls Tryd.prog 24 #[.string P, .string N, .int .i64 3] W (VE W (.agg (⟨1, stubS ex12, ex12⟩ : It).cells))) := hid fun W hW => by
    have h := judge_any P N 3 W hW
    rw [show (3 : Int) = ex12.opn from rfl, judge_lone p1 n2] at h
    exact h
  have HJ3 : Hid (∀ W : World, Fd W → Calls Tryd.prog 24 #[.string P, .string N, .int .i64 11] W (VE W (.agg it0.cells))) := hid fun W hW => by
    have h := judge_any P N 11 W hW
    rw [judge_void p1 n2 (.inr (by decide))] at h
    exact h
  have HJ4 : Hid (∀ W : World, Fd W → Calls Tryd.prog 24 #[.string N, .string N, .int .i64 3] W (VE W (.agg (⟨3, st0, en0⟩ : It).cells))) := hid fun W hW => by
    have h := judge_any N N 3 W hW
    rw [judge_unsure n1 n2] at h
    exact h
  have HF := hid hf
  clear hf hP hV hN p1 v2 n1 n2 e0
  generalize stubS ex12 = t at *
  have hbe := Below.refl w.heap.size w
  go_enter Tryd.func10, Tryd.ntmps10
  go_wp2_with (first
    | (go_at_call 12; refine (HP.out _ (HF.out.below hbe HF.out.1)).mono ?_; rintro e w1 ⟨rfl, hb1⟩; replace hbe := hbe.trans (hb1.mono hbe.size); clear hb1)
    | (go_at_call 18; refine (HV.out _).mono ?_; rintro e w1 ⟨rfl, hb1⟩; replace hbe := hbe.trans (hb1.mono hbe.size); clear hb1)
    | (go_at_call 35; refine (HN.out _).mono ?_; rintro e w1 ⟨rfl, hb1⟩; replace hbe := hbe.trans (hb1.mono hbe.size); clear hb1)
    | (go_at_call_of 24 (Value.int IntKind.i64 1); refine (HJ1.out _ (HF.out.below hbe HF.out.1)).mono ?_; rintro e w1 ⟨rfl, hb1⟩; replace hbe := hbe.trans (hb1.mono hbe.size); clear hb1)
    | (go_at_call_of 24 (Value.int IntKind.i64 11); refine (HJ3.out _ (HF.out.below hbe HF.out.1)).mono ?_; rintro e w1 ⟨rfl, hb1⟩; replace hbe := hbe.trans (hb1.mono hbe.size); clear hb1)
    | (go_at_call_of 24 (Value.string P); refine (HJ2.out _ (HF.out.below hbe HF.out.1)).mono ?_; rintro e w1 ⟨rfl, hb1⟩; replace hbe := hbe.trans (hb1.mono hbe.size); clear hb1)
    | (go_at_call 24; refine (HJ4.out _ (HF.out.below hbe HF.out.1)).mono ?_; rintro e w1 ⟨rfl, hb1⟩; replace hbe := hbe.trans (hb1.mono hbe.size); clear hb1)
    | ((with_reducible show wpList _ _ _ ({ dst := some 23, op := _, type := _, pos := _, after := _, guard := _ } :: _) _ _); refine wpl_run rfl (.int .i64 1) (fun _ => by kernel_rfl) ?_)
    | (refine wpl_eqi rfl it0 it0 true (.tmp 15) (.tmp 16) _ rfl rfl rfl (hid (.inl ⟨rfl, rfl⟩)) ?_)
    | (refine wpl_eqi rfl it0 it0 true (.tmp 29) (.tmp 30) _ rfl rfl rfl (hid (.inl ⟨rfl, rfl⟩)) ?_)
    | (refine wpl_eqi rfl ⟨3, st0, en0⟩ ⟨3, st0, en0⟩ true (.tmp 36) (.tmp 37) _ rfl rfl rfl (hid (.inl ⟨rfl, rfl⟩)) ?_))
  go_ret
  exact ⟨rfl, hbe⟩
end Go.Proofs.YtdcoiehhnllhmaaDoor
/-
  A disk of two sectors, in plain words: what calls leave, wherever the power goes.
-/
namespace Go.Proofs.YtdcoiehhnllhmaaDoor
open Go.RowKit
set_option maxRecDepth 10000

theorem Fr.of_below {w w' : World} (h : Below w.heap.size w w') : Fr w w' [] := ⟨h.os, h.tape, h.output, h.size, fun b hb _ => h.block b hb⟩
theorem Dk.rebase {B : Nat} {w0 w w' : World} {p gs g : Nat} {S : Sp} (h : Dk B w0 w p gs S) (hg : w.grownBy w' (some g)) (hlt : g < B) : Dk B w' w' p gs S := by
  obtain ⟨vw, h1, h2, h3, h4⟩ := h
  refine ⟨vw, h1.fr (fp := [g]) ((Fr.refl w [g]).grown hg (fun k hk => .inl (by simp [Option.some.inj hk]))) (fun b hb hn => ?_), h2, Below.refl _ _, Nat.le_trans h4 hg.size⟩
  have := h2 b hb
  have : b = g := by simpa using hn
  omega
/-- two sectors, and what is under way -/
def dv (a b : List UInt8) (way : List Wr) (on : Bool) (l c : Nat) : Sp := ⟨[⟨a, false⟩, ⟨b, false⟩], way, on, l, c⟩
/-- two sectors, nothing under way -/
def dw (a b : List UInt8) (m n : Bool) (l c : Nat) : Sp := ⟨[⟨a, m⟩, ⟨b, n⟩], [], true, l, c⟩
section
variable {a b s p h : List UInt8} {way : List Wr} {l c : Nat}
theorem dv_write {k : Nat} (hk : k < 2) (hs : s.length = 384) (hl : l ≠ 1) : (dv a b way true l c).write k s = (dv a b (way ++ [⟨k, s⟩]) true (l - 1) (c + 1), 0) := Sp.write_ok (S := dv a b way true l c) (by simpa [dv] using hk) hs rfl hl
theorem dv_write_off {k : Nat} (hk : k < 2) (hs : s.length = 384) : (dv a b way true 1 c).write k s = (dv a b way false 0 (c + 1), 6) := by
  unfold Sp.write
  rw [if_neg (by rintro (h | h); exact h ⟨by omega, by simp [dv]; omega⟩; exact h hs), Sp.goes_one rfl rfl, if_neg (by simp)]
  rfl
theorem dv_flush (hl : l ≠ 1) : (dv a b way true l c).flush = (⟨sett (fun _ => 384) way [⟨a, false⟩, ⟨b, false⟩], [], true, l - 1, c + 1⟩, 0) := Sp.flush_ok (S := dv a b way true l c) rfl hl
theorem dv_flush_off : (dv a b way true 1 c).flush = (dv a b way false 0 (c + 1), 6) := by
  unfold Sp.flush
  rw [Sp.goes_one rfl rfl, if_neg (by simp)]
  rfl
theorem take_all (ha : a.length = 384) (hs : s.length = 384) : takeS3 ⟨a, false⟩ s 384 = ⟨s, false⟩ := takeS_full a s ha hs
theorem dv_flush0 (ha : a.length = 384) (hs : s.length = 384) (hl : l ≠ 1) : (dv a b [⟨0, s⟩] true l c).flush = (dv s b [] true (l - 1) (c + 1), 0) := by
  rw [dv_flush hl]
  have e : sett (fun _ => 384) [⟨0, s⟩] [⟨a, false⟩, ⟨b, false⟩] = [takeS3 ⟨a, false⟩ s 384, ⟨b, false⟩] := rfl
  rw [e, take_all ha hs]
  rfl
theorem dv_flush1 (hb : b.length = 384) (hs : s.length = 384) (hl : l ≠ 1) : (dv a b [⟨1, s⟩] true l c).flush = (dv a s [] true (l - 1) (c + 1), 0) := by
  rw [dv_flush hl]
  have e : sett (fun _ => 384) [⟨1, s⟩] [⟨a, false⟩, ⟨b, false⟩] = [⟨a, false⟩, takeS3 ⟨b, false⟩ s 384] := rfl
  rw [e, take_all hb hs]
  rfl
theorem dv_flush01 (ha : a.length = 384) (hb : b.length = 384) (hp : p.length = 384) (hh : h.length = 384) (hl : l ≠ 1) : (dv a b [⟨0, p⟩, ⟨1, h⟩] true l c).flush = (dv p h [] true (l - 1) (c + 1), 0) := by
  rw [dv_flush hl]
  have e : sett (fun _ => 384) [⟨0, p⟩, ⟨1, h⟩] [⟨a, false⟩, ⟨b, false⟩] = [takeS3 ⟨a, false⟩ p 384, takeS3 ⟨b, false⟩ h 384] := rfl
  rw [e, take_all ha hp, take_all hb hh]
  rfl
theorem dv_fuse (n : Int) : (dv a b [] true l c).fuse n = (dv a b [] true n.toNat c, 0) := by
  unfold Sp.fuse
  rw [if_neg (by simp [dv])]
  rfl
theorem dv_start (picks : List Int) : (dv a b [] false l c).start picks = (dw a b false false l c, 0) := by
  rw [Sp.start_ok rfl]
  rfl
theorem dv_start0 (picks : List Int) : ∃ m, (dv a b [⟨0, s⟩] false l c).start picks = (dw (s.take (pickOf picks 0) ++ a.drop (pickOf picks 0)) b m false l c, 0) := by
  rw [Sp.start_ok rfl]
  exact ⟨_, rfl⟩
theorem dv_start1 (picks : List Int) : ∃ m, (dv a b [⟨1, s⟩] false l c).start picks = (dw a (s.take (pickOf picks 0) ++ b.drop (pickOf picks 0)) false m l c, 0) := by
  rw [Sp.start_ok rfl]
  exact ⟨_, rfl⟩
theorem dv_dw : dv a b [] true l c = dw a b false false l c := rfl
theorem dw_read0 (m n : Bool) : (dw a b m n l c).read 0 = (a, 0) := by
  unfold Sp.read
  rw [if_neg (fun h => h ⟨by omega, by simp [dw]⟩), if_neg (by simp [dw])]
  rfl
theorem dw_read1 (m n : Bool) : (dw a b m n l c).read 1 = (b, 0) := by
  unfold Sp.read
  rw [if_neg (fun h => h ⟨by omega, by simp [dw]⟩), if_neg (by simp [dw])]
  rfl
theorem dw_on (m n : Bool) : (dw a b m n l c).on = true := rfl
end
theorem mk0_dv : Sp.mk0 2 = dv (b384 0) (b384 0) [] true 0 0 := rfl
theorem next_own (l : List UInt8) (h : l.length = 384) : l.getD 383 0 ≠ nextS l := by
  unfold nextS
  rw [if_neg (by omega), h]
  intro c
  have h1 := congrArg UInt8.toNat c
  rw [UInt8.toNat_add] at h1
  have h2 := UInt8.toNat_lt (l.getD 383 0)
  have h3 : (l.getD (384 - 1) 0) = l.getD 383 0 := rfl
  rw [h3] at h1
  have h4 : (1 : UInt8).toNat = 1 := rfl
  omega
/-- a sector that was laid over another one, as far as a pick says -/
theorem mix_cases {old s : List UInt8} (ho : old.length = 384) (hs : s.length ≤ 376) {k : Nat} (hk : k ≤ 384) :
    (layS (nextS old) s).take k ++ old.drop k = old ∨ (layS (nextS old) s).take k ++ old.drop k = layS (nextS old) s ∨ openS ((layS (nextS old) s).take k ++ old.drop k) = ([], false) := by
  by_cases h0 : k = 0
  · subst h0
    exact .inl (by simp)
  · by_cases h1 : k = 384
    · subst h1
      right; left
      rw [List.take_of_length_le (by rw [layS_len _ _ hs]; exact Nat.le_refl _), List.drop_eq_nil_of_le (by omega), List.append_nil]
    · right; right
      exact tears_not _ s old k hs (next_own old ho) (by omega) (by omega)
end Go.Proofs.YtdcoiehhnllhmaaDoor
