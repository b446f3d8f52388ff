/-
  SlotTears: every way.
-/
import Derived.Test.YtdcoiehhnllhmaaDoorTe1
import Derived.Test.YtdcoiehhnllhmaaDoorTe2
import Derived.Test.YtdcoiehhnllhmaaDoorTe3
import Derived.Test.YtdcoiehhnllhmaaDoorTe4
namespace Go.Proofs.YtdcoiehhnllhmaaDoor
open Go.RowKit
set_option maxRecDepth 10000

theorem packL {e : En} (he : e.fits) (h : Rt e) : (packE e).1.length ≤ 376 := by have := packE_rt he h; omega
theorem bytesL (s : St) : s.bytes.length ≤ 376 := by rw [sbytes_len]; omega
set_option maxHeartbeats 1000000 in
theorem tears_w (o e : En) (ho : o.fits) (he : e.fits) (hO : Rt o) (hE : Rt e) (hon : o.opn ≠ e.opn) (n : Int) (hn : n ≤ 9223372036854775807) (A : Option Addr) (l cap : Nat) (picks : List Int) (w : World) (hl : l = picks.length) (hr : Rd w w.heap.size A (ints picks)) (hp : ∀ x ∈ picks, x ≤ 9223372036854775807) (hpn : l ≤ 9223372036854775807) (hf : Fd w)
    (HRo : Hid (∀ W, Calls Tryd.prog 27 #[o.val] W (VE W (.bool true)))) (HRe : Hid (∀ W, Calls Tryd.prog 27 #[e.val] W (VE W (.bool true)))) :
    Calls Tryd.prog 6 #[o.val, .bool false, e.val, .int .i64 n, .slice A l cap] w (Yes w) := by
  have HAW := hid (fun W (hW : Fd W) => awake12_any W hW)
  have e0 : sb (⟨#[]⟩ : ByteArray) = [] := rfl
  have HPr : ∀ (q : List UInt8), q.length ≤ 384 → ∀ (x : En), x.fits → Rt x → Hid (∀ W, Fd W → Calls Tryd.prog 12 #[.string ⟨q.toArray⟩, x.val] W fun y w' => y = .returned (.tuple #[.string ⟨(layS (nextS q) (packE x).1).toArray⟩, .int .i64 0]) ∧ Below W.heap.size W w') := fun q hq x hx hr => hid fun W hW => by
    have h := sprep_any ⟨q.toArray⟩ x (by rw [← sb_len, sb_mk]; omega) W hW
    rw [sb_mk, prep_ok hx hr] at h
    exact h
  have HHd : ∀ (q : List UInt8), q.length ≤ 384 → ∀ (x : En), x.fits → Rt x → Hid (∀ W, Calls Tryd.prog 14 #[.string ⟨q.toArray⟩, (stubS x).val] W fun y w' => y = .returned (.tuple #[.string ⟨(layS (nextS q) (stubS x).bytes).toArray⟩, .int .i64 0]) ∧ Below W.heap.size W w') := fun q hq x hx hr => hid fun W => by
    have h := shdr_any ⟨q.toArray⟩ (stubS x) (stubS_fits hx) (by rw [← sb_len, sb_mk]; omega) W
    rw [sb_mk, hdr_ok (stubS_ok hr)] at h
    exact h
  have HV : ∀ q : List UInt8, q.length ≤ 384 → Hid (∀ W, Calls Tryd.prog 18 #[.string ⟨q.toArray⟩] W fun x w' => x = .returned (.string ⟨(layS (nextS q) []).toArray⟩) ∧ Below W.heap.size W w') := fun q hq => hid fun W => by
    have h := svoid_any ⟨q.toArray⟩ (by rw [← sb_len, sb_mk]; omega) W
    rw [sb_mk, void_ok] at h
    exact h
  have HJ : ∀ (la lb : List UInt8) (k : Int) (I : It), judgeS la lb k = I → Hid (∀ W, Fd W → Calls Tryd.prog 24 #[.string ⟨la.toArray⟩, .string ⟨lb.toArray⟩, .int .i64 k] W (VE W I.val)) := fun la lb k I h => hid fun W hW => by
    have h1 := judge_any ⟨la.toArray⟩ ⟨lb.toArray⟩ k W hW
    rw [sb_mk, sb_mk, h] at h1
    exact h1
  have HNB := hid hn
  have HL := hid hl
  have HRD : Hid (∀ W, Below w.heap.size w W → Rd W w.heap.size A (ints picks)) := hid fun W hb => hr.below hb (Nat.le_refl _)
  have HPI := hid hp
  have HPN : Hid (picks.length ≤ 9223372036854775807) := hid (by rw [← hl]; exact hpn)
  have hkp := pickOf_le picks 0
  have WR : ∀ {a b : List UInt8} {way : List Wr} {f c : Nat} (k : Nat) (q : List UInt8), k < 2 → q.length = 384 → f ≠ 1 → Hid ((dv a b way true f c).write k (sb ⟨q.toArray⟩) = (dv a b (way ++ [⟨k, q⟩]) true (f - 1) (c + 1), 0)) := fun k q h1 h2 h3 => hid (by rw [sb_mk]; exact dv_write h1 h2 h3)
  have WO : ∀ {a b : List UInt8} {way : List Wr} {c : Nat} (k : Nat) (q : List UInt8), k < 2 → q.length = 384 → Hid ((dv a b way true 1 c).write k (sb ⟨q.toArray⟩) = (dv a b way false 0 (c + 1), 6)) := fun k q h1 h2 => hid (by rw [sb_mk]; exact dv_write_off h1 h2)
  have cn : ∀ (a b : List UInt8) (way : List Wr) (on : Bool) (l c : Nat), c ≤ 100 → Hid ((dv a b way on l c).count ≤ 1048576) := fun a b way on l c h => hid (by show c ≤ 1048576; omega)
  have cz : ∀ (a b : List UInt8) (m m' : Bool) (l c : Nat), c ≤ 100 → Hid ((dw a b m m' l c).count ≤ 1048576) := fun a b m m' l c h => hid (by show c ≤ 1048576; omega)
  have fu : ∀ a b : List UInt8, Hid ((dv a b [] true 0 3).fuse n = (dv a b [] true n.toNat 3, 0)) := fun a b => hid (dv_fuse n)
  generalize n.toNat = f at fu
  have hne : (o.opn == e.opn) = false := by simpa using hon
  have hpl : ((layS (nextS []) (packE o).1)).length = 384 := layS_len _ _ (packL ho hO)
  have hhl : ((layS (nextS []) (stubS o).bytes)).length = 384 := layS_len _ _ (bytesL _)
  have hxl : ((layS (nextS (layS (nextS []) (packE o).1)) (packE e).1)).length = 384 := layS_len _ _ (packL he hE)
  have hyl : ((layS (nextS (layS (nextS []) (stubS o).bytes)) (stubS e).bytes)).length = 384 := layS_len _ _ (bytesL _)
  have x1 : entryS (layS (nextS (layS (nextS []) (packE o).1)) (packE e).1) = (e, true, true) := entry_lay he hE _
  have y2 : stubT (layS (nextS (layS (nextS []) (stubS o).bytes)) (stubS e).bytes) = (stubS e, true, true) := stub_lay (stubS_fits he) (stubS_ok hE) _
  have hk : ∀ q, judgeS q (layS (nextS []) (stubS o).bytes) e.opn = it0 := fun q => judge_lacks (stub_lay (stubS_fits ho) (stubS_ok hO) _) (.inr (by rw [stubS_rt hO]; exact hon))
  have mx := mix_cases (old := (layS (nextS []) (stubS o).bytes)) (s := (stubS e).bytes) hhl (bytesL _) hkp
  by_cases h1 : f = 1
  · subst h1
    exact tears_w0L o e (stubS o) (stubS e) _ _ ⟨#[]⟩ _ _ _ _ _ _ _ _ _ _ _ w hf A l cap picks n HNB HL HRD HPI HPN HAW HRo HRe hne (HPr [] (by simp) o ho hO) (hid fun W hW => sstub_any o ho W hW) (HHd [] (by simp) o ho hO) (HPr (layS (nextS []) (packE o).1) (by omega) e he hE) (hid fun W hW => sstub_any e he W hW) (HHd (layS (nextS []) (stubS o).bytes) (by omega) e he hE) (hid mk0_dv) (WR 0 _ (by omega) hpl (by omega)) (WR 1 _ (by omega) hhl (by omega)) (hid (dv_flush01 (b384_len 0) (b384_len 0) hpl hhl (by omega))) (fu _ _) (WO 0 _ (by omega) hxl) (hid rfl) (hid (dv_start picks)) (cz _ _ _ _ _ _ (by omega)) (cn _ _ _ _ _ _ (by omega)) (cn _ _ _ _ _ _ (by omega)) (cn _ _ _ _ _ _ (by omega)) (cn _ _ _ _ _ _ (by omega)) (cn _ _ _ _ _ _ (by omega)) (cn _ _ _ _ _ _ (by omega)) (hid (dw_read0 _ _)) (hid (dw_read1 _ _)) (HJ _ _ _ _ (hk _))
  by_cases h2 : f = 2
  · subst h2
    obtain ⟨m, hst⟩ := dv_start0 (a := (layS (nextS []) (packE o).1)) (b := (layS (nextS []) (stubS o).bytes)) (s := (layS (nextS (layS (nextS []) (packE o).1)) (packE e).1)) (l := 0) (c := 5) picks
    exact tears_w1L o e (stubS o) (stubS e) _ _ ⟨#[]⟩ _ _ _ _ _ _ _ _ _ _ _ _ w hf A l cap picks n HNB HL HRD HPI HPN HAW HRo HRe hne (HPr [] (by simp) o ho hO) (hid fun W hW => sstub_any o ho W hW) (HHd [] (by simp) o ho hO) (HPr (layS (nextS []) (packE o).1) (by omega) e he hE) (hid fun W hW => sstub_any e he W hW) (HHd (layS (nextS []) (stubS o).bytes) (by omega) e he hE) (hid mk0_dv) (WR 0 _ (by omega) hpl (by omega)) (WR 1 _ (by omega) hhl (by omega)) (hid (dv_flush01 (b384_len 0) (b384_len 0) hpl hhl (by omega))) (fu _ _) (WR 0 _ (by omega) hxl (by omega)) (hid dv_flush_off) (hid rfl) (hid hst) (cz _ _ _ _ _ _ (by omega)) (cn _ _ _ _ _ _ (by omega)) (cn _ _ _ _ _ _ (by omega)) (cn _ _ _ _ _ _ (by omega)) (cn _ _ _ _ _ _ (by omega)) (cn _ _ _ _ _ _ (by omega)) (cn _ _ _ _ _ _ (by omega)) (cn _ _ _ _ _ _ (by omega)) (hid (dw_read0 _ _)) (hid (dw_read1 _ _)) (HJ _ _ _ _ (hk _))
  by_cases h3 : f = 3
  · subst h3
    exact tears_w2L o e (stubS o) (stubS e) _ _ ⟨#[]⟩ _ _ _ _ _ _ _ _ _ _ _ _ _ w hf A l cap picks n HNB HL HRD HPI HPN HAW HRo HRe hne (HPr [] (by simp) o ho hO) (hid fun W hW => sstub_any o ho W hW) (HHd [] (by simp) o ho hO) (HPr (layS (nextS []) (packE o).1) (by omega) e he hE) (hid fun W hW => sstub_any e he W hW) (HHd (layS (nextS []) (stubS o).bytes) (by omega) e he hE) (hid mk0_dv) (WR 0 _ (by omega) hpl (by omega)) (WR 1 _ (by omega) hhl (by omega)) (hid (dv_flush01 (b384_len 0) (b384_len 0) hpl hhl (by omega))) (fu _ _) (WR 0 _ (by omega) hxl (by omega)) (hid (dv_flush0 hpl hxl (by omega))) (WO 1 _ (by omega) hyl) (hid rfl) (hid (dv_start picks)) (cz _ _ _ _ _ _ (by omega)) (cn _ _ _ _ _ _ (by omega)) (cn _ _ _ _ _ _ (by omega)) (cn _ _ _ _ _ _ (by omega)) (cn _ _ _ _ _ _ (by omega)) (cn _ _ _ _ _ _ (by omega)) (cn _ _ _ _ _ _ (by omega)) (cn _ _ _ _ _ _ (by omega)) (cn _ _ _ _ _ _ (by omega)) (hid (dw_read0 _ _)) (hid (dw_read1 _ _)) (HJ _ _ _ _ (hk _))
  by_cases h4 : f = 4
  · subst h4
    obtain ⟨m, hst⟩ := dv_start1 (a := (layS (nextS (layS (nextS []) (packE o).1)) (packE e).1)) (b := (layS (nextS []) (stubS o).bytes)) (s := (layS (nextS (layS (nextS []) (stubS o).bytes)) (stubS e).bytes)) (l := 0) (c := 7) picks
    have hj : judgeS (layS (nextS (layS (nextS []) (packE o).1)) (packE e).1) ((layS (nextS (layS (nextS []) (stubS o).bytes)) (stubS e).bytes).take (pickOf picks 0) ++ (layS (nextS []) (stubS o).bytes).drop (pickOf picks 0)) e.opn = it0 ∨ judgeS (layS (nextS (layS (nextS []) (packE o).1)) (packE e).1) ((layS (nextS (layS (nextS []) (stubS o).bytes)) (stubS e).bytes).take (pickOf picks 0) ++ (layS (nextS []) (stubS o).bytes).drop (pickOf picks 0)) e.opn = ⟨1, stubS e, e⟩ := by
      rcases mx with h | h | h
      · rw [h]; exact .inl (hk _)
      · rw [h]; exact .inr (judge_holds hE x1 y2)
      · exact .inr (judge_lone x1 (stub_none h))
    rcases hj with hj | hj
    · exact tears_w3L o e (stubS o) (stubS e) _ _ ⟨#[]⟩ _ _ _ _ _ _ _ _ _ _ _ _ _ _ w hf A l cap picks n HNB HL HRD HPI HPN HAW HRo HRe hne (HPr [] (by simp) o ho hO) (hid fun W hW => sstub_any o ho W hW) (HHd [] (by simp) o ho hO) (HPr (layS (nextS []) (packE o).1) (by omega) e he hE) (hid fun W hW => sstub_any e he W hW) (HHd (layS (nextS []) (stubS o).bytes) (by omega) e he hE) (hid mk0_dv) (WR 0 _ (by omega) hpl (by omega)) (WR 1 _ (by omega) hhl (by omega)) (hid (dv_flush01 (b384_len 0) (b384_len 0) hpl hhl (by omega))) (fu _ _) (WR 0 _ (by omega) hxl (by omega)) (hid (dv_flush0 hpl hxl (by omega))) (WR 1 _ (by omega) hyl (by omega)) (hid dv_flush_off) (hid rfl) (hid hst) (cz _ _ _ _ _ _ (by omega)) (cn _ _ _ _ _ _ (by omega)) (cn _ _ _ _ _ _ (by omega)) (cn _ _ _ _ _ _ (by omega)) (cn _ _ _ _ _ _ (by omega)) (cn _ _ _ _ _ _ (by omega)) (cn _ _ _ _ _ _ (by omega)) (cn _ _ _ _ _ _ (by omega)) (cn _ _ _ _ _ _ (by omega)) (cn _ _ _ _ _ _ (by omega)) (hid (dw_read0 _ _)) (hid (dw_read1 _ _)) (HJ _ _ _ _ hj)
    · exact tears_w3H o e (stubS o) (stubS e) _ _ ⟨#[]⟩ _ _ _ _ _ _ _ _ _ _ _ _ _ _ w hf A l cap picks n HNB HL HRD HPI HPN HAW HRo HRe hne (HPr [] (by simp) o ho hO) (hid fun W hW => sstub_any o ho W hW) (HHd [] (by simp) o ho hO) (HPr (layS (nextS []) (packE o).1) (by omega) e he hE) (hid fun W hW => sstub_any e he W hW) (HHd (layS (nextS []) (stubS o).bytes) (by omega) e he hE) (hid mk0_dv) (WR 0 _ (by omega) hpl (by omega)) (WR 1 _ (by omega) hhl (by omega)) (hid (dv_flush01 (b384_len 0) (b384_len 0) hpl hhl (by omega))) (fu _ _) (WR 0 _ (by omega) hxl (by omega)) (hid (dv_flush0 hpl hxl (by omega))) (WR 1 _ (by omega) hyl (by omega)) (hid dv_flush_off) (hid rfl) (hid hst) (cz _ _ _ _ _ _ (by omega)) (cn _ _ _ _ _ _ (by omega)) (cn _ _ _ _ _ _ (by omega)) (cn _ _ _ _ _ _ (by omega)) (cn _ _ _ _ _ _ (by omega)) (cn _ _ _ _ _ _ (by omega)) (cn _ _ _ _ _ _ (by omega)) (cn _ _ _ _ _ _ (by omega)) (cn _ _ _ _ _ _ (by omega)) (cn _ _ _ _ _ _ (by omega)) (hid (dw_read0 _ _)) (hid (dw_read1 _ _)) (HJ _ _ _ _ hj)
  · exact tears_w4H o e (stubS o) (stubS e) _ _ ⟨#[]⟩ _ _ _ _ _ _ _ _ _ _ _ _ _ w hf A l cap picks n HNB HL HRD HPI HPN HAW HRo HRe hne (HPr [] (by simp) o ho hO) (hid fun W hW => sstub_any o ho W hW) (HHd [] (by simp) o ho hO) (HPr (layS (nextS []) (packE o).1) (by omega) e he hE) (hid fun W hW => sstub_any e he W hW) (HHd (layS (nextS []) (stubS o).bytes) (by omega) e he hE) (hid mk0_dv) (WR 0 _ (by omega) hpl (by omega)) (WR 1 _ (by omega) hhl (by omega)) (hid (dv_flush01 (b384_len 0) (b384_len 0) hpl hhl (by omega))) (fu _ _) (WR 0 _ (by omega) hxl (by omega)) (hid (dv_flush0 hpl hxl (by omega))) (WR 1 _ (by omega) hyl (by omega)) (hid (dv_flush1 hhl hyl (by omega))) (hid rfl)  (cn _ _ _ _ _ _ (by omega)) (cn _ _ _ _ _ _ (by omega)) (cn _ _ _ _ _ _ (by omega)) (cn _ _ _ _ _ _ (by omega)) (cn _ _ _ _ _ _ (by omega)) (cn _ _ _ _ _ _ (by omega)) (cn _ _ _ _ _ _ (by omega)) (cn _ _ _ _ _ _ (by omega)) (cn _ _ _ _ _ _ (by omega)) (hid (dw_read0 _ _)) (hid (dw_read1 _ _)) (HJ _ _ _ _ (judge_holds hE x1 y2))
set_option maxHeartbeats 1000000 in
theorem tears_v (o e : En) (ho : o.fits) (he : e.fits) (hO : Rt o) (hE : Rt e) (hon : o.opn ≠ e.opn) (n : Int) (hn : n ≤ 9223372036854775807) (A : Option Addr) (l cap : Nat) (picks : List Int) (w : World) (hl : l = picks.length) (hr : Rd w w.heap.size A (ints picks)) (hp : ∀ x ∈ picks, x ≤ 9223372036854775807) (hpn : l ≤ 9223372036854775807) (hf : Fd w)
    (HRo : Hid (∀ W, Calls Tryd.prog 27 #[o.val] W (VE W (.bool true)))) (HRe : Hid (∀ W, Calls Tryd.prog 27 #[e.val] W (VE W (.bool true)))) :
    Calls Tryd.prog 6 #[o.val, .bool true, e.val, .int .i64 n, .slice A l cap] w (Yes w) := by
  have HAW := hid (fun W (hW : Fd W) => awake12_any W hW)
  have e0 : sb (⟨#[]⟩ : ByteArray) = [] := rfl
  have HPr : ∀ (q : List UInt8), q.length ≤ 384 → ∀ (x : En), x.fits → Rt x → Hid (∀ W, Fd W → Calls Tryd.prog 12 #[.string ⟨q.toArray⟩, x.val] W fun y w' => y = .returned (.tuple #[.string ⟨(layS (nextS q) (packE x).1).toArray⟩, .int .i64 0]) ∧ Below W.heap.size W w') := fun q hq x hx hr => hid fun W hW => by
    have h := sprep_any ⟨q.toArray⟩ x (by rw [← sb_len, sb_mk]; omega) W hW
    rw [sb_mk, prep_ok hx hr] at h
    exact h
  have HHd : ∀ (q : List UInt8), q.length ≤ 384 → ∀ (x : En), x.fits → Rt x → Hid (∀ W, Calls Tryd.prog 14 #[.string ⟨q.toArray⟩, (stubS x).val] W fun y w' => y = .returned (.tuple #[.string ⟨(layS (nextS q) (stubS x).bytes).toArray⟩, .int .i64 0]) ∧ Below W.heap.size W w') := fun q hq x hx hr => hid fun W => by
    have h := shdr_any ⟨q.toArray⟩ (stubS x) (stubS_fits hx) (by rw [← sb_len, sb_mk]; omega) W
    rw [sb_mk, hdr_ok (stubS_ok hr)] at h
    exact h
  have HV : ∀ q : List UInt8, q.length ≤ 384 → Hid (∀ W, Calls Tryd.prog 18 #[.string ⟨q.toArray⟩] W fun x w' => x = .returned (.string ⟨(layS (nextS q) []).toArray⟩) ∧ Below W.heap.size W w') := fun q hq => hid fun W => by
    have h := svoid_any ⟨q.toArray⟩ (by rw [← sb_len, sb_mk]; omega) W
    rw [sb_mk, void_ok] at h
    exact h
  have HJ : ∀ (la lb : List UInt8) (k : Int) (I : It), judgeS la lb k = I → Hid (∀ W, Fd W → Calls Tryd.prog 24 #[.string ⟨la.toArray⟩, .string ⟨lb.toArray⟩, .int .i64 k] W (VE W I.val)) := fun la lb k I h => hid fun W hW => by
    have h1 := judge_any ⟨la.toArray⟩ ⟨lb.toArray⟩ k W hW
    rw [sb_mk, sb_mk, h] at h1
    exact h1
  have HNB := hid hn
  have HL := hid hl
  have HRD : Hid (∀ W, Below w.heap.size w W → Rd W w.heap.size A (ints picks)) := hid fun W hb => hr.below hb (Nat.le_refl _)
  have HPI := hid hp
  have HPN : Hid (picks.length ≤ 9223372036854775807) := hid (by rw [← hl]; exact hpn)
  have hkp := pickOf_le picks 0
  have WR : ∀ {a b : List UInt8} {way : List Wr} {f c : Nat} (k : Nat) (q : List UInt8), k < 2 → q.length = 384 → f ≠ 1 → Hid ((dv a b way true f c).write k (sb ⟨q.toArray⟩) = (dv a b (way ++ [⟨k, q⟩]) true (f - 1) (c + 1), 0)) := fun k q h1 h2 h3 => hid (by rw [sb_mk]; exact dv_write h1 h2 h3)
  have WO : ∀ {a b : List UInt8} {way : List Wr} {c : Nat} (k : Nat) (q : List UInt8), k < 2 → q.length = 384 → Hid ((dv a b way true 1 c).write k (sb ⟨q.toArray⟩) = (dv a b way false 0 (c + 1), 6)) := fun k q h1 h2 => hid (by rw [sb_mk]; exact dv_write_off h1 h2)
  have cn : ∀ (a b : List UInt8) (way : List Wr) (on : Bool) (l c : Nat), c ≤ 100 → Hid ((dv a b way on l c).count ≤ 1048576) := fun a b way on l c h => hid (by show c ≤ 1048576; omega)
  have cz : ∀ (a b : List UInt8) (m m' : Bool) (l c : Nat), c ≤ 100 → Hid ((dw a b m m' l c).count ≤ 1048576) := fun a b m m' l c h => hid (by show c ≤ 1048576; omega)
  have fu : ∀ a b : List UInt8, Hid ((dv a b [] true 0 3).fuse n = (dv a b [] true n.toNat 3, 0)) := fun a b => hid (dv_fuse n)
  generalize n.toNat = f at fu
  have hne : (o.opn == e.opn) = false := by simpa using hon
  have hpl : ((layS (nextS []) [])).length = 384 := layS_len _ _ (by simp)
  have hhl : ((layS (nextS []) [])).length = 384 := layS_len _ _ (by simp)
  have hxl : ((layS (nextS (layS (nextS []) [])) (packE e).1)).length = 384 := layS_len _ _ (packL he hE)
  have hyl : ((layS (nextS (layS (nextS []) [])) (stubS e).bytes)).length = 384 := layS_len _ _ (bytesL _)
  have x1 : entryS (layS (nextS (layS (nextS []) [])) (packE e).1) = (e, true, true) := entry_lay he hE _
  have y2 : stubT (layS (nextS (layS (nextS []) [])) (stubS e).bytes) = (stubS e, true, true) := stub_lay (stubS_fits he) (stubS_ok hE) _
  have hk : ∀ q, judgeS q (layS (nextS []) []) e.opn = it0 := fun q => judge_lacks (stub_void _) (.inl rfl)
  have mx := mix_cases (old := (layS (nextS []) [])) (s := (stubS e).bytes) hhl (bytesL _) hkp
  by_cases h1 : f = 1
  · subst h1
    exact tears_v0L o e (stubS o) (stubS e) _ _ _ _ _ _ _ _ _ _ _ _ _ _ w hf A l cap picks n HNB HL HRD HPI HPN HAW HRo HRe hne (HPr [] (by simp) o ho hO) (hid fun W hW => sstub_any o ho W hW) (HHd [] (by simp) o ho hO) (HV [] (by simp)) (HPr (layS (nextS []) []) (by omega) e he hE) (hid fun W hW => sstub_any e he W hW) (HHd (layS (nextS []) []) (by omega) e he hE) (hid mk0_dv) (WR 0 _ (by omega) hpl (by omega)) (WR 1 _ (by omega) hhl (by omega)) (hid (dv_flush01 (b384_len 0) (b384_len 0) hpl hhl (by omega))) (fu _ _) (WO 0 _ (by omega) hxl) (hid rfl) (hid (dv_start picks)) (cz _ _ _ _ _ _ (by omega)) (cn _ _ _ _ _ _ (by omega)) (cn _ _ _ _ _ _ (by omega)) (cn _ _ _ _ _ _ (by omega)) (cn _ _ _ _ _ _ (by omega)) (cn _ _ _ _ _ _ (by omega)) (cn _ _ _ _ _ _ (by omega)) (hid (dw_read0 _ _)) (hid (dw_read1 _ _)) (HJ _ _ _ _ (hk _))
  by_cases h2 : f = 2
  · subst h2
    obtain ⟨m, hst⟩ := dv_start0 (a := (layS (nextS []) [])) (b := (layS (nextS []) [])) (s := (layS (nextS (layS (nextS []) [])) (packE e).1)) (l := 0) (c := 5) picks
    exact tears_v1L o e (stubS o) (stubS e) _ _ _ _ _ _ _ _ _ _ _ _ _ _ _ w hf A l cap picks n HNB HL HRD HPI HPN HAW HRo HRe hne (HPr [] (by simp) o ho hO) (hid fun W hW => sstub_any o ho W hW) (HHd [] (by simp) o ho hO) (HV [] (by simp)) (HPr (layS (nextS []) []) (by omega) e he hE) (hid fun W hW => sstub_any e he W hW) (HHd (layS (nextS []) []) (by omega) e he hE) (hid mk0_dv) (WR 0 _ (by omega) hpl (by omega)) (WR 1 _ (by omega) hhl (by omega)) (hid (dv_flush01 (b384_len 0) (b384_len 0) hpl hhl (by omega))) (fu _ _) (WR 0 _ (by omega) hxl (by omega)) (hid dv_flush_off) (hid rfl) (hid hst) (cz _ _ _ _ _ _ (by omega)) (cn _ _ _ _ _ _ (by omega)) (cn _ _ _ _ _ _ (by omega)) (cn _ _ _ _ _ _ (by omega)) (cn _ _ _ _ _ _ (by omega)) (cn _ _ _ _ _ _ (by omega)) (cn _ _ _ _ _ _ (by omega)) (cn _ _ _ _ _ _ (by omega)) (hid (dw_read0 _ _)) (hid (dw_read1 _ _)) (HJ _ _ _ _ (hk _))
  by_cases h3 : f = 3
  · subst h3
    exact tears_v2L o e (stubS o) (stubS e) _ _ _ _ _ _ _ _ _ _ _ _ _ _ _ _ w hf A l cap picks n HNB HL HRD HPI HPN HAW HRo HRe hne (HPr [] (by simp) o ho hO) (hid fun W hW => sstub_any o ho W hW) (HHd [] (by simp) o ho hO) (HV [] (by simp)) (HPr (layS (nextS []) []) (by omega) e he hE) (hid fun W hW => sstub_any e he W hW) (HHd (layS (nextS []) []) (by omega) e he hE) (hid mk0_dv) (WR 0 _ (by omega) hpl (by omega)) (WR 1 _ (by omega) hhl (by omega)) (hid (dv_flush01 (b384_len 0) (b384_len 0) hpl hhl (by omega))) (fu _ _) (WR 0 _ (by omega) hxl (by omega)) (hid (dv_flush0 hpl hxl (by omega))) (WO 1 _ (by omega) hyl) (hid rfl) (hid (dv_start picks)) (cz _ _ _ _ _ _ (by omega)) (cn _ _ _ _ _ _ (by omega)) (cn _ _ _ _ _ _ (by omega)) (cn _ _ _ _ _ _ (by omega)) (cn _ _ _ _ _ _ (by omega)) (cn _ _ _ _ _ _ (by omega)) (cn _ _ _ _ _ _ (by omega)) (cn _ _ _ _ _ _ (by omega)) (cn _ _ _ _ _ _ (by omega)) (hid (dw_read0 _ _)) (hid (dw_read1 _ _)) (HJ _ _ _ _ (hk _))
  by_cases h4 : f = 4
  · subst h4
    obtain ⟨m, hst⟩ := dv_start1 (a := (layS (nextS (layS (nextS []) [])) (packE e).1)) (b := (layS (nextS []) [])) (s := (layS (nextS (layS (nextS []) [])) (stubS e).bytes)) (l := 0) (c := 7) picks
    have hj : judgeS (layS (nextS (layS (nextS []) [])) (packE e).1) ((layS (nextS (layS (nextS []) [])) (stubS e).bytes).take (pickOf picks 0) ++ (layS (nextS []) []).drop (pickOf picks 0)) e.opn = it0 ∨ judgeS (layS (nextS (layS (nextS []) [])) (packE e).1) ((layS (nextS (layS (nextS []) [])) (stubS e).bytes).take (pickOf picks 0) ++ (layS (nextS []) []).drop (pickOf picks 0)) e.opn = ⟨1, stubS e, e⟩ := by
      rcases mx with h | h | h
      · rw [h]; exact .inl (hk _)
      · rw [h]; exact .inr (judge_holds hE x1 y2)
      · exact .inr (judge_lone x1 (stub_none h))
    rcases hj with hj | hj
    · exact tears_v3L o e (stubS o) (stubS e) _ _ _ _ _ _ _ _ _ _ _ _ _ _ _ _ _ w hf A l cap picks n HNB HL HRD HPI HPN HAW HRo HRe hne (HPr [] (by simp) o ho hO) (hid fun W hW => sstub_any o ho W hW) (HHd [] (by simp) o ho hO) (HV [] (by simp)) (HPr (layS (nextS []) []) (by omega) e he hE) (hid fun W hW => sstub_any e he W hW) (HHd (layS (nextS []) []) (by omega) e he hE) (hid mk0_dv) (WR 0 _ (by omega) hpl (by omega)) (WR 1 _ (by omega) hhl (by omega)) (hid (dv_flush01 (b384_len 0) (b384_len 0) hpl hhl (by omega))) (fu _ _) (WR 0 _ (by omega) hxl (by omega)) (hid (dv_flush0 hpl hxl (by omega))) (WR 1 _ (by omega) hyl (by omega)) (hid dv_flush_off) (hid rfl) (hid hst) (cz _ _ _ _ _ _ (by omega)) (cn _ _ _ _ _ _ (by omega)) (cn _ _ _ _ _ _ (by omega)) (cn _ _ _ _ _ _ (by omega)) (cn _ _ _ _ _ _ (by omega)) (cn _ _ _ _ _ _ (by omega)) (cn _ _ _ _ _ _ (by omega)) (cn _ _ _ _ _ _ (by omega)) (cn _ _ _ _ _ _ (by omega)) (cn _ _ _ _ _ _ (by omega)) (hid (dw_read0 _ _)) (hid (dw_read1 _ _)) (HJ _ _ _ _ hj)
    · exact tears_v3H o e (stubS o) (stubS e) _ _ _ _ _ _ _ _ _ _ _ _ _ _ _ _ _ w hf A l cap picks n HNB HL HRD HPI HPN HAW HRo HRe hne (HPr [] (by simp) o ho hO) (hid fun W hW => sstub_any o ho W hW) (HHd [] (by simp) o ho hO) (HV [] (by simp)) (HPr (layS (nextS []) []) (by omega) e he hE) (hid fun W hW => sstub_any e he W hW) (HHd (layS (nextS []) []) (by omega) e he hE) (hid mk0_dv) (WR 0 _ (by omega) hpl (by omega)) (WR 1 _ (by omega) hhl (by omega)) (hid (dv_flush01 (b384_len 0) (b384_len 0) hpl hhl (by omega))) (fu _ _) (WR 0 _ (by omega) hxl (by omega)) (hid (dv_flush0 hpl hxl (by omega))) (WR 1 _ (by omega) hyl (by omega)) (hid dv_flush_off) (hid rfl) (hid hst) (cz _ _ _ _ _ _ (by omega)) (cn _ _ _ _ _ _ (by omega)) (cn _ _ _ _ _ _ (by omega)) (cn _ _ _ _ _ _ (by omega)) (cn _ _ _ _ _ _ (by omega)) (cn _ _ _ _ _ _ (by omega)) (cn _ _ _ _ _ _ (by omega)) (cn _ _ _ _ _ _ (by omega)) (cn _ _ _ _ _ _ (by omega)) (cn _ _ _ _ _ _ (by omega)) (hid (dw_read0 _ _)) (hid (dw_read1 _ _)) (HJ _ _ _ _ hj)
  · exact tears_v4H o e (stubS o) (stubS e) _ _ _ _ _ _ _ _ _ _ _ _ _ _ _ _ w hf A l cap picks n HNB HL HRD HPI HPN HAW HRo HRe hne (HPr [] (by simp) o ho hO) (hid fun W hW => sstub_any o ho W hW) (HHd [] (by simp) o ho hO) (HV [] (by simp)) (HPr (layS (nextS []) []) (by omega) e he hE) (hid fun W hW => sstub_any e he W hW) (HHd (layS (nextS []) []) (by omega) e he hE) (hid mk0_dv) (WR 0 _ (by omega) hpl (by omega)) (WR 1 _ (by omega) hhl (by omega)) (hid (dv_flush01 (b384_len 0) (b384_len 0) hpl hhl (by omega))) (fu _ _) (WR 0 _ (by omega) hxl (by omega)) (hid (dv_flush0 hpl hxl (by omega))) (WR 1 _ (by omega) hyl (by omega)) (hid (dv_flush1 hhl hyl (by omega))) (hid rfl)  (cn _ _ _ _ _ _ (by omega)) (cn _ _ _ _ _ _ (by omega)) (cn _ _ _ _ _ _ (by omega)) (cn _ _ _ _ _ _ (by omega)) (cn _ _ _ _ _ _ (by omega)) (cn _ _ _ _ _ _ (by omega)) (cn _ _ _ _ _ _ (by omega)) (cn _ _ _ _ _ _ (by omega)) (cn _ _ _ _ _ _ (by omega)) (hid (dw_read0 _ _)) (hid (dw_read1 _ _)) (HJ _ _ _ _ (judge_holds hE x1 y2))
theorem tears_law12 (o : En) (ho : o.fits) (v : Bool) (e : En) (he : e.fits) (n : Int) (hn : n ≤ 9223372036854775807) (A : Option Addr) (l cap : Nat) (picks : List Int) (w : World) (hl : l = picks.length) (hr : Rd w w.heap.size A (ints picks)) (hp : ∀ x ∈ picks, x ≤ 9223372036854775807) (hpn : l ≤ 9223372036854775807) (hf : Fd w) :
    Calls Tryd.prog 6 #[o.val, .bool v, e.val, .int .i64 n, .slice A l cap] w (Yes w) := by
  have HAW := hid (fun W (hW : Fd W) => awake12_any W hW)
  have HRo := hid (fun W => eright_any o W)
  have HRe := hid (fun W => eright_any e W)
  by_cases hO : Rt o
  · rw [decide_eq_true hO] at HRo
    by_cases hE : Rt e
    · rw [decide_eq_true hE] at HRe
      by_cases hq : o.opn = e.opn
      · exact tears_N3 o e _ v n A l cap w hf HAW HRo HRe (by simpa using hq) (hid mk0_dv)
      · cases v
        · exact tears_w o e ho he hO hE hq n hn A l cap picks w hl hr hp hpn hf HRo HRe
        · exact tears_v o e ho he hO hE hq n hn A l cap picks w hl hr hp hpn hf HRo HRe
    · rw [decide_eq_false hE] at HRe
      exact tears_N2 o e _ v n A l cap w hf HAW HRo HRe (hid mk0_dv)
  · rw [decide_eq_false hO] at HRo
    exact tears_N1 o e _ v n A l cap w hf HAW HRo (hid mk0_dv)
end Go.Proofs.YtdcoiehhnllhmaaDoor
