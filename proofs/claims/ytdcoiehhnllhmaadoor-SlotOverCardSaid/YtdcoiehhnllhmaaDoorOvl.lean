/-
  SlotOver: every way.
-/
import Derived.Test.YtdcoiehhnllhmaaDoorOv1
import Derived.Test.YtdcoiehhnllhmaaDoorOv2
import Derived.Test.YtdcoiehhnllhmaaDoorOv3
import Derived.Test.YtdcoiehhnllhmaaDoorOv4
namespace Go.Proofs.YtdcoiehhnllhmaaDoor
open Go.RowKit
set_option maxRecDepth 10000

theorem packLo {e : En} (he : e.fits) (h : Rt e) : (packE e).1.length ≤ 376 := by have := packE_rt he h; omega
theorem bytesLo (s : St) : s.bytes.length ≤ 376 := by rw [sbytes_len]; omega
set_option maxHeartbeats 1000000 in
theorem over_yes (o e : En) (ho : o.fits) (hO : Rt o) (E : En) (hEq : E = (⟨e.view, o.opn, e.under, e.parent, e.client, e.session, e.request, e.oper, e.body⟩ : En)) (he : E.fits) (hE : Rt E) (n : Int) (hn : n ≤ 9223372036854775807) (A : Option Addr) (l cap : Nat) (picks : List Int) (w : World) (hl : l = picks.length) (hr : Rd w w.heap.size A (ints picks)) (hp : ∀ x ∈ picks, x ≤ 9223372036854775807) (hpn : l ≤ 9223372036854775807) (hf : Fd w)
    (HRo : Hid (∀ W, Calls Tryd.prog 27 #[o.val] W (VE W (.bool true)))) (HRe : Hid (∀ W, Calls Tryd.prog 27 #[E.val] W (VE W (.bool true)))) :
    Calls Tryd.prog 9 #[o.val, e.val, .int .i64 n, .slice A l cap] w (Yes w) := by
  have HAW := hid (fun W (hW : Fd W) => awake12_any W hW)
  have e0 : sb (⟨#[]⟩ : ByteArray) = [] := rfl
  have HPr : ∀ (q : List UInt8), q.length ≤ 384 → ∀ (x : En), x.fits → Rt x → Hid (∀ W, Fd W → Calls Tryd.prog 12 #[.string ⟨q.toArray⟩, x.val] W fun y w' => y = .returned (.tuple #[.string ⟨(layS (nextS q) (packE x).1).toArray⟩, .int .i64 0]) ∧ Below W.heap.size W w') := fun q hq x hx hr => hid fun W hW => by
    have h := sprep_any ⟨q.toArray⟩ x (by rw [← sb_len, sb_mk]; omega) W hW
    rw [sb_mk, prep_ok hx hr] at h
    exact h
  have HHd : ∀ (q : List UInt8), q.length ≤ 384 → ∀ (x : En), x.fits → Rt x → Hid (∀ W, Calls Tryd.prog 14 #[.string ⟨q.toArray⟩, (stubS x).val] W fun y w' => y = .returned (.tuple #[.string ⟨(layS (nextS q) (stubS x).bytes).toArray⟩, .int .i64 0]) ∧ Below W.heap.size W w') := fun q hq x hx hr => hid fun W => by
    have h := shdr_any ⟨q.toArray⟩ (stubS x) (stubS_fits hx) (by rw [← sb_len, sb_mk]; omega) W
    rw [sb_mk, hdr_ok (stubS_ok hr)] at h
    exact h
  have HV : ∀ q : List UInt8, q.length ≤ 384 → Hid (∀ W, Calls Tryd.prog 18 #[.string ⟨q.toArray⟩] W fun x w' => x = .returned (.string ⟨(layS (nextS q) []).toArray⟩) ∧ Below W.heap.size W w') := fun q hq => hid fun W => by
    have h := svoid_any ⟨q.toArray⟩ (by rw [← sb_len, sb_mk]; omega) W
    rw [sb_mk, void_ok] at h
    exact h
  have HJ : ∀ (la lb : List UInt8) (k : Int) (I : It), judgeS la lb k = I → Hid (∀ W, Fd W → Calls Tryd.prog 24 #[.string ⟨la.toArray⟩, .string ⟨lb.toArray⟩, .int .i64 k] W (VE W I.val)) := fun la lb k I h => hid fun W hW => by
    have h1 := judge_any ⟨la.toArray⟩ ⟨lb.toArray⟩ k W hW
    rw [sb_mk, sb_mk, h] at h1
    exact h1
  have HNB := hid hn
  have HL := hid hl
  have HRD : Hid (∀ W, Below w.heap.size w W → Rd W w.heap.size A (ints picks)) := hid fun W hb => hr.below hb (Nat.le_refl _)
  have HPI := hid hp
  have HPN : Hid (picks.length ≤ 9223372036854775807) := hid (by rw [← hl]; exact hpn)
  have hkp := pickOf_le picks 0
  have WR : ∀ {a b : List UInt8} {way : List Wr} {f c : Nat} (k : Nat) (q : List UInt8), k < 2 → q.length = 384 → f ≠ 1 → Hid ((dv a b way true f c).write k (sb ⟨q.toArray⟩) = (dv a b (way ++ [⟨k, q⟩]) true (f - 1) (c + 1), 0)) := fun k q h1 h2 h3 => hid (by rw [sb_mk]; exact dv_write h1 h2 h3)
  have WO : ∀ {a b : List UInt8} {way : List Wr} {c : Nat} (k : Nat) (q : List UInt8), k < 2 → q.length = 384 → Hid ((dv a b way true 1 c).write k (sb ⟨q.toArray⟩) = (dv a b way false 0 (c + 1), 6)) := fun k q h1 h2 => hid (by rw [sb_mk]; exact dv_write_off h1 h2)
  have cn : ∀ (a b : List UInt8) (way : List Wr) (on : Bool) (l c : Nat), c ≤ 100 → Hid ((dv a b way on l c).count ≤ 1048576) := fun a b way on l c h => hid (by show c ≤ 1048576; omega)
  have cz : ∀ (a b : List UInt8) (m m' : Bool) (l c : Nat), c ≤ 100 → Hid ((dw a b m m' l c).count ≤ 1048576) := fun a b m m' l c h => hid (by show c ≤ 1048576; omega)
  have fu : ∀ a b : List UInt8, Hid ((dv a b [] true 0 3).fuse n = (dv a b [] true n.toNat 3, 0)) := fun a b => hid (dv_fuse n)
  generalize n.toNat = f at fu
  have hop : E.opn = o.opn := by rw [hEq]
  have hpl : ((layS (nextS []) (packE o).1)).length = 384 := layS_len _ _ (packLo ho hO)
  have hhl : ((layS (nextS []) (stubS o).bytes)).length = 384 := layS_len _ _ (bytesLo _)
  have hvl : ((layS (nextS (layS (nextS []) (stubS o).bytes)) [])).length = 384 := layS_len _ _ (by simp)
  have hxl : ((layS (nextS (layS (nextS []) (packE o).1)) (packE E).1)).length = 384 := layS_len _ _ (packLo he hE)
  have hyl : ((layS (nextS (layS (nextS (layS (nextS []) (stubS o).bytes)) [])) (stubS E).bytes)).length = 384 := layS_len _ _ (bytesLo _)
  have p1 : entryS (layS (nextS []) (packE o).1) = (o, true, true) := entry_lay ho hO _
  have h2' : stubT (layS (nextS []) (stubS o).bytes) = (stubS o, true, true) := stub_lay (stubS_fits ho) (stubS_ok hO) _
  have x1 : entryS (layS (nextS (layS (nextS []) (packE o).1)) (packE E).1) = (E, true, true) := entry_lay he hE _
  have y2 : stubT (layS (nextS (layS (nextS (layS (nextS []) (stubS o).bytes)) [])) (stubS E).bytes) = (stubS E, true, true) := stub_lay (stubS_fits he) (stubS_ok hE) _
  have hk : ∀ q, judgeS q (layS (nextS (layS (nextS []) (stubS o).bytes)) []) o.opn = it0 := fun q => judge_lacks (stub_void _) (.inl rfl)
  have hold : judgeS (layS (nextS []) (packE o).1) (layS (nextS []) (stubS o).bytes) o.opn = ⟨1, stubS o, o⟩ := judge_holds hO p1 h2'
  have hnew : judgeS (layS (nextS (layS (nextS []) (packE o).1)) (packE E).1) (layS (nextS (layS (nextS (layS (nextS []) (stubS o).bytes)) [])) (stubS E).bytes) o.opn = ⟨1, stubS E, E⟩ := by rw [← hop]; exact judge_holds hE x1 y2
  have mx := mix_cases (old := (layS (nextS []) (stubS o).bytes)) (s := []) hhl (by simp) hkp
  have my := mix_cases (old := (layS (nextS (layS (nextS []) (stubS o).bytes)) [])) (s := (stubS E).bytes) hvl (bytesLo _) hkp
  by_cases h1 : f = 1
  · subst h1
    by_cases hq : o = E
    · subst hEq
      exact over_0Ot o e (stubS o) (stubS (⟨e.view, o.opn, e.under, e.parent, e.client, e.session, e.request, e.oper, e.body⟩ : En)) _ _ _ _ _ _ _ _ _ _ _ _ _ _ w hf A l cap picks n HNB HL HRD HPI HPN HAW HRo HRe (HPr [] (by simp) o ho hO) (hid fun W hW => sstub_any o ho W hW) (HHd [] (by simp) o ho hO) (HV (layS (nextS []) (stubS o).bytes) (by omega)) (HPr (layS (nextS []) (packE o).1) (by omega) (⟨e.view, o.opn, e.under, e.parent, e.client, e.session, e.request, e.oper, e.body⟩ : En) he hE) (hid fun W hW => sstub_any (⟨e.view, o.opn, e.under, e.parent, e.client, e.session, e.request, e.oper, e.body⟩ : En) he W hW) (HHd (layS (nextS (layS (nextS []) (stubS o).bytes)) []) (by omega) (⟨e.view, o.opn, e.under, e.parent, e.client, e.session, e.request, e.oper, e.body⟩ : En) he hE) (hid mk0_dv) (WR 0 _ (by omega) hpl (by omega)) (WR 1 _ (by omega) hhl (by omega)) (hid (dv_flush01 (b384_len 0) (b384_len 0) hpl hhl (by omega))) (fu _ _) (WO 1 _ (by omega) hvl) (hid rfl) (hid (dv_start picks)) (cz _ _ _ _ _ _ (by omega)) (cn _ _ _ _ _ _ (by omega)) (cn _ _ _ _ _ _ (by omega)) (cn _ _ _ _ _ _ (by omega)) (cn _ _ _ _ _ _ (by omega)) (cn _ _ _ _ _ _ (by omega)) (cn _ _ _ _ _ _ (by omega)) (hid (dw_read0 _ _)) (hid (dw_read1 _ _)) (hid (by simpa using hq)) (HJ _ _ _ _ hold)
    · subst hEq
      exact over_0Of o e (stubS o) (stubS (⟨e.view, o.opn, e.under, e.parent, e.client, e.session, e.request, e.oper, e.body⟩ : En)) _ _ _ _ _ _ _ _ _ _ _ _ _ _ w hf A l cap picks n HNB HL HRD HPI HPN HAW HRo HRe (HPr [] (by simp) o ho hO) (hid fun W hW => sstub_any o ho W hW) (HHd [] (by simp) o ho hO) (HV (layS (nextS []) (stubS o).bytes) (by omega)) (HPr (layS (nextS []) (packE o).1) (by omega) (⟨e.view, o.opn, e.under, e.parent, e.client, e.session, e.request, e.oper, e.body⟩ : En) he hE) (hid fun W hW => sstub_any (⟨e.view, o.opn, e.under, e.parent, e.client, e.session, e.request, e.oper, e.body⟩ : En) he W hW) (HHd (layS (nextS (layS (nextS []) (stubS o).bytes)) []) (by omega) (⟨e.view, o.opn, e.under, e.parent, e.client, e.session, e.request, e.oper, e.body⟩ : En) he hE) (hid mk0_dv) (WR 0 _ (by omega) hpl (by omega)) (WR 1 _ (by omega) hhl (by omega)) (hid (dv_flush01 (b384_len 0) (b384_len 0) hpl hhl (by omega))) (fu _ _) (WO 1 _ (by omega) hvl) (hid rfl) (hid (dv_start picks)) (cz _ _ _ _ _ _ (by omega)) (cn _ _ _ _ _ _ (by omega)) (cn _ _ _ _ _ _ (by omega)) (cn _ _ _ _ _ _ (by omega)) (cn _ _ _ _ _ _ (by omega)) (cn _ _ _ _ _ _ (by omega)) (cn _ _ _ _ _ _ (by omega)) (hid (dw_read0 _ _)) (hid (dw_read1 _ _)) (hid (by simpa using hq)) (HJ _ _ _ _ hold)
  by_cases h2 : f = 2
  · subst h2
    obtain ⟨m, hst⟩ := dv_start1 (a := (layS (nextS []) (packE o).1)) (b := (layS (nextS []) (stubS o).bytes)) (s := (layS (nextS (layS (nextS []) (stubS o).bytes)) [])) (l := 0) (c := 5) picks
    have hj : judgeS (layS (nextS []) (packE o).1) ((layS (nextS (layS (nextS []) (stubS o).bytes)) []).take (pickOf picks 0) ++ (layS (nextS []) (stubS o).bytes).drop (pickOf picks 0)) o.opn = ⟨1, stubS o, o⟩ ∨ judgeS (layS (nextS []) (packE o).1) ((layS (nextS (layS (nextS []) (stubS o).bytes)) []).take (pickOf picks 0) ++ (layS (nextS []) (stubS o).bytes).drop (pickOf picks 0)) o.opn = it0 := by
      rcases mx with h | h | h
      · rw [h]; exact .inl hold
      · rw [h]; exact .inr (hk _)
      · exact .inl (judge_lone p1 (stub_none h))
    rcases hj with hj | hj
    · skip
      by_cases hq : o = E
      · subst hEq
        exact over_1Ot o e (stubS o) (stubS (⟨e.view, o.opn, e.under, e.parent, e.client, e.session, e.request, e.oper, e.body⟩ : En)) _ _ _ _ _ _ _ _ _ _ _ _ _ _ _ w hf A l cap picks n HNB HL HRD HPI HPN HAW HRo HRe (HPr [] (by simp) o ho hO) (hid fun W hW => sstub_any o ho W hW) (HHd [] (by simp) o ho hO) (HV (layS (nextS []) (stubS o).bytes) (by omega)) (HPr (layS (nextS []) (packE o).1) (by omega) (⟨e.view, o.opn, e.under, e.parent, e.client, e.session, e.request, e.oper, e.body⟩ : En) he hE) (hid fun W hW => sstub_any (⟨e.view, o.opn, e.under, e.parent, e.client, e.session, e.request, e.oper, e.body⟩ : En) he W hW) (HHd (layS (nextS (layS (nextS []) (stubS o).bytes)) []) (by omega) (⟨e.view, o.opn, e.under, e.parent, e.client, e.session, e.request, e.oper, e.body⟩ : En) he hE) (hid mk0_dv) (WR 0 _ (by omega) hpl (by omega)) (WR 1 _ (by omega) hhl (by omega)) (hid (dv_flush01 (b384_len 0) (b384_len 0) hpl hhl (by omega))) (fu _ _) (WR 1 _ (by omega) hvl (by omega)) (hid dv_flush_off) (hid rfl) (hid hst) (cz _ _ _ _ _ _ (by omega)) (cn _ _ _ _ _ _ (by omega)) (cn _ _ _ _ _ _ (by omega)) (cn _ _ _ _ _ _ (by omega)) (cn _ _ _ _ _ _ (by omega)) (cn _ _ _ _ _ _ (by omega)) (cn _ _ _ _ _ _ (by omega)) (cn _ _ _ _ _ _ (by omega)) (hid (dw_read0 _ _)) (hid (dw_read1 _ _)) (hid (by simpa using hq)) (HJ _ _ _ _ hj)
      · subst hEq
        exact over_1Of o e (stubS o) (stubS (⟨e.view, o.opn, e.under, e.parent, e.client, e.session, e.request, e.oper, e.body⟩ : En)) _ _ _ _ _ _ _ _ _ _ _ _ _ _ _ w hf A l cap picks n HNB HL HRD HPI HPN HAW HRo HRe (HPr [] (by simp) o ho hO) (hid fun W hW => sstub_any o ho W hW) (HHd [] (by simp) o ho hO) (HV (layS (nextS []) (stubS o).bytes) (by omega)) (HPr (layS (nextS []) (packE o).1) (by omega) (⟨e.view, o.opn, e.under, e.parent, e.client, e.session, e.request, e.oper, e.body⟩ : En) he hE) (hid fun W hW => sstub_any (⟨e.view, o.opn, e.under, e.parent, e.client, e.session, e.request, e.oper, e.body⟩ : En) he W hW) (HHd (layS (nextS (layS (nextS []) (stubS o).bytes)) []) (by omega) (⟨e.view, o.opn, e.under, e.parent, e.client, e.session, e.request, e.oper, e.body⟩ : En) he hE) (hid mk0_dv) (WR 0 _ (by omega) hpl (by omega)) (WR 1 _ (by omega) hhl (by omega)) (hid (dv_flush01 (b384_len 0) (b384_len 0) hpl hhl (by omega))) (fu _ _) (WR 1 _ (by omega) hvl (by omega)) (hid dv_flush_off) (hid rfl) (hid hst) (cz _ _ _ _ _ _ (by omega)) (cn _ _ _ _ _ _ (by omega)) (cn _ _ _ _ _ _ (by omega)) (cn _ _ _ _ _ _ (by omega)) (cn _ _ _ _ _ _ (by omega)) (cn _ _ _ _ _ _ (by omega)) (cn _ _ _ _ _ _ (by omega)) (cn _ _ _ _ _ _ (by omega)) (hid (dw_read0 _ _)) (hid (dw_read1 _ _)) (hid (by simpa using hq)) (HJ _ _ _ _ hj)
    · skip
      subst hEq
      exact over_1L o e (stubS o) (stubS (⟨e.view, o.opn, e.under, e.parent, e.client, e.session, e.request, e.oper, e.body⟩ : En)) _ _ _ _ _ _ _ _ _ _ _ _ _ _ _ w hf A l cap picks n HNB HL HRD HPI HPN HAW HRo HRe (HPr [] (by simp) o ho hO) (hid fun W hW => sstub_any o ho W hW) (HHd [] (by simp) o ho hO) (HV (layS (nextS []) (stubS o).bytes) (by omega)) (HPr (layS (nextS []) (packE o).1) (by omega) (⟨e.view, o.opn, e.under, e.parent, e.client, e.session, e.request, e.oper, e.body⟩ : En) he hE) (hid fun W hW => sstub_any (⟨e.view, o.opn, e.under, e.parent, e.client, e.session, e.request, e.oper, e.body⟩ : En) he W hW) (HHd (layS (nextS (layS (nextS []) (stubS o).bytes)) []) (by omega) (⟨e.view, o.opn, e.under, e.parent, e.client, e.session, e.request, e.oper, e.body⟩ : En) he hE) (hid mk0_dv) (WR 0 _ (by omega) hpl (by omega)) (WR 1 _ (by omega) hhl (by omega)) (hid (dv_flush01 (b384_len 0) (b384_len 0) hpl hhl (by omega))) (fu _ _) (WR 1 _ (by omega) hvl (by omega)) (hid dv_flush_off) (hid rfl) (hid hst) (cz _ _ _ _ _ _ (by omega)) (cn _ _ _ _ _ _ (by omega)) (cn _ _ _ _ _ _ (by omega)) (cn _ _ _ _ _ _ (by omega)) (cn _ _ _ _ _ _ (by omega)) (cn _ _ _ _ _ _ (by omega)) (cn _ _ _ _ _ _ (by omega)) (cn _ _ _ _ _ _ (by omega)) (hid (dw_read0 _ _)) (hid (dw_read1 _ _)) (HJ _ _ _ _ hj)
  by_cases h3 : f = 3
  · subst h3
    subst hEq
    exact over_2L o e (stubS o) (stubS (⟨e.view, o.opn, e.under, e.parent, e.client, e.session, e.request, e.oper, e.body⟩ : En)) _ _ _ _ _ _ _ _ _ _ _ _ _ _ _ _ w hf A l cap picks n HNB HL HRD HPI HPN HAW HRo HRe (HPr [] (by simp) o ho hO) (hid fun W hW => sstub_any o ho W hW) (HHd [] (by simp) o ho hO) (HV (layS (nextS []) (stubS o).bytes) (by omega)) (HPr (layS (nextS []) (packE o).1) (by omega) (⟨e.view, o.opn, e.under, e.parent, e.client, e.session, e.request, e.oper, e.body⟩ : En) he hE) (hid fun W hW => sstub_any (⟨e.view, o.opn, e.under, e.parent, e.client, e.session, e.request, e.oper, e.body⟩ : En) he W hW) (HHd (layS (nextS (layS (nextS []) (stubS o).bytes)) []) (by omega) (⟨e.view, o.opn, e.under, e.parent, e.client, e.session, e.request, e.oper, e.body⟩ : En) he hE) (hid mk0_dv) (WR 0 _ (by omega) hpl (by omega)) (WR 1 _ (by omega) hhl (by omega)) (hid (dv_flush01 (b384_len 0) (b384_len 0) hpl hhl (by omega))) (fu _ _) (WR 1 _ (by omega) hvl (by omega)) (hid (dv_flush1 hhl hvl (by omega))) (WO 0 _ (by omega) hxl) (hid rfl) (hid (dv_start picks)) (cz _ _ _ _ _ _ (by omega)) (cn _ _ _ _ _ _ (by omega)) (cn _ _ _ _ _ _ (by omega)) (cn _ _ _ _ _ _ (by omega)) (cn _ _ _ _ _ _ (by omega)) (cn _ _ _ _ _ _ (by omega)) (cn _ _ _ _ _ _ (by omega)) (cn _ _ _ _ _ _ (by omega)) (cn _ _ _ _ _ _ (by omega)) (hid (dw_read0 _ _)) (hid (dw_read1 _ _)) (HJ _ _ _ _ (hk _))
  by_cases h4 : f = 4
  · subst h4
    obtain ⟨m, hst⟩ := dv_start0 (a := (layS (nextS []) (packE o).1)) (b := (layS (nextS (layS (nextS []) (stubS o).bytes)) [])) (s := (layS (nextS (layS (nextS []) (packE o).1)) (packE E).1)) (l := 0) (c := 7) picks
    subst hEq
    exact over_3L o e (stubS o) (stubS (⟨e.view, o.opn, e.under, e.parent, e.client, e.session, e.request, e.oper, e.body⟩ : En)) _ _ _ _ _ _ _ _ _ _ _ _ _ _ _ _ _ w hf A l cap picks n HNB HL HRD HPI HPN HAW HRo HRe (HPr [] (by simp) o ho hO) (hid fun W hW => sstub_any o ho W hW) (HHd [] (by simp) o ho hO) (HV (layS (nextS []) (stubS o).bytes) (by omega)) (HPr (layS (nextS []) (packE o).1) (by omega) (⟨e.view, o.opn, e.under, e.parent, e.client, e.session, e.request, e.oper, e.body⟩ : En) he hE) (hid fun W hW => sstub_any (⟨e.view, o.opn, e.under, e.parent, e.client, e.session, e.request, e.oper, e.body⟩ : En) he W hW) (HHd (layS (nextS (layS (nextS []) (stubS o).bytes)) []) (by omega) (⟨e.view, o.opn, e.under, e.parent, e.client, e.session, e.request, e.oper, e.body⟩ : En) he hE) (hid mk0_dv) (WR 0 _ (by omega) hpl (by omega)) (WR 1 _ (by omega) hhl (by omega)) (hid (dv_flush01 (b384_len 0) (b384_len 0) hpl hhl (by omega))) (fu _ _) (WR 1 _ (by omega) hvl (by omega)) (hid (dv_flush1 hhl hvl (by omega))) (WR 0 _ (by omega) hxl (by omega)) (hid dv_flush_off) (hid rfl) (hid hst) (cz _ _ _ _ _ _ (by omega)) (cn _ _ _ _ _ _ (by omega)) (cn _ _ _ _ _ _ (by omega)) (cn _ _ _ _ _ _ (by omega)) (cn _ _ _ _ _ _ (by omega)) (cn _ _ _ _ _ _ (by omega)) (cn _ _ _ _ _ _ (by omega)) (cn _ _ _ _ _ _ (by omega)) (cn _ _ _ _ _ _ (by omega)) (cn _ _ _ _ _ _ (by omega)) (hid (dw_read0 _ _)) (hid (dw_read1 _ _)) (HJ _ _ _ _ (hk _))
  by_cases h5 : f = 5
  · subst h5
    subst hEq
    exact over_4L o e (stubS o) (stubS (⟨e.view, o.opn, e.under, e.parent, e.client, e.session, e.request, e.oper, e.body⟩ : En)) _ _ _ _ _ _ _ _ _ _ _ _ _ _ _ _ _ _ w hf A l cap picks n HNB HL HRD HPI HPN HAW HRo HRe (HPr [] (by simp) o ho hO) (hid fun W hW => sstub_any o ho W hW) (HHd [] (by simp) o ho hO) (HV (layS (nextS []) (stubS o).bytes) (by omega)) (HPr (layS (nextS []) (packE o).1) (by omega) (⟨e.view, o.opn, e.under, e.parent, e.client, e.session, e.request, e.oper, e.body⟩ : En) he hE) (hid fun W hW => sstub_any (⟨e.view, o.opn, e.under, e.parent, e.client, e.session, e.request, e.oper, e.body⟩ : En) he W hW) (HHd (layS (nextS (layS (nextS []) (stubS o).bytes)) []) (by omega) (⟨e.view, o.opn, e.under, e.parent, e.client, e.session, e.request, e.oper, e.body⟩ : En) he hE) (hid mk0_dv) (WR 0 _ (by omega) hpl (by omega)) (WR 1 _ (by omega) hhl (by omega)) (hid (dv_flush01 (b384_len 0) (b384_len 0) hpl hhl (by omega))) (fu _ _) (WR 1 _ (by omega) hvl (by omega)) (hid (dv_flush1 hhl hvl (by omega))) (WR 0 _ (by omega) hxl (by omega)) (hid (dv_flush0 hpl hxl (by omega))) (WO 1 _ (by omega) hyl) (hid rfl) (hid (dv_start picks)) (cz _ _ _ _ _ _ (by omega)) (cn _ _ _ _ _ _ (by omega)) (cn _ _ _ _ _ _ (by omega)) (cn _ _ _ _ _ _ (by omega)) (cn _ _ _ _ _ _ (by omega)) (cn _ _ _ _ _ _ (by omega)) (cn _ _ _ _ _ _ (by omega)) (cn _ _ _ _ _ _ (by omega)) (cn _ _ _ _ _ _ (by omega)) (cn _ _ _ _ _ _ (by omega)) (cn _ _ _ _ _ _ (by omega)) (hid (dw_read0 _ _)) (hid (dw_read1 _ _)) (HJ _ _ _ _ (hk _))
  by_cases h6 : f = 6
  · subst h6
    obtain ⟨m, hst⟩ := dv_start1 (a := (layS (nextS (layS (nextS []) (packE o).1)) (packE E).1)) (b := (layS (nextS (layS (nextS []) (stubS o).bytes)) [])) (s := (layS (nextS (layS (nextS (layS (nextS []) (stubS o).bytes)) [])) (stubS E).bytes)) (l := 0) (c := 9) picks
    have hj : judgeS (layS (nextS (layS (nextS []) (packE o).1)) (packE E).1) ((layS (nextS (layS (nextS (layS (nextS []) (stubS o).bytes)) [])) (stubS E).bytes).take (pickOf picks 0) ++ (layS (nextS (layS (nextS []) (stubS o).bytes)) []).drop (pickOf picks 0)) o.opn = it0 ∨ judgeS (layS (nextS (layS (nextS []) (packE o).1)) (packE E).1) ((layS (nextS (layS (nextS (layS (nextS []) (stubS o).bytes)) [])) (stubS E).bytes).take (pickOf picks 0) ++ (layS (nextS (layS (nextS []) (stubS o).bytes)) []).drop (pickOf picks 0)) o.opn = ⟨1, stubS E, E⟩ := by
      rcases my with h | h | h
      · rw [h]; exact .inl (hk _)
      · rw [h]; exact .inr hnew
      · right; rw [← hop]; exact judge_lone x1 (stub_none h)
    rcases hj with hj | hj
    · skip
      subst hEq
      exact over_5L o e (stubS o) (stubS (⟨e.view, o.opn, e.under, e.parent, e.client, e.session, e.request, e.oper, e.body⟩ : En)) _ _ _ _ _ _ _ _ _ _ _ _ _ _ _ _ _ _ _ w hf A l cap picks n HNB HL HRD HPI HPN HAW HRo HRe (HPr [] (by simp) o ho hO) (hid fun W hW => sstub_any o ho W hW) (HHd [] (by simp) o ho hO) (HV (layS (nextS []) (stubS o).bytes) (by omega)) (HPr (layS (nextS []) (packE o).1) (by omega) (⟨e.view, o.opn, e.under, e.parent, e.client, e.session, e.request, e.oper, e.body⟩ : En) he hE) (hid fun W hW => sstub_any (⟨e.view, o.opn, e.under, e.parent, e.client, e.session, e.request, e.oper, e.body⟩ : En) he W hW) (HHd (layS (nextS (layS (nextS []) (stubS o).bytes)) []) (by omega) (⟨e.view, o.opn, e.under, e.parent, e.client, e.session, e.request, e.oper, e.body⟩ : En) he hE) (hid mk0_dv) (WR 0 _ (by omega) hpl (by omega)) (WR 1 _ (by omega) hhl (by omega)) (hid (dv_flush01 (b384_len 0) (b384_len 0) hpl hhl (by omega))) (fu _ _) (WR 1 _ (by omega) hvl (by omega)) (hid (dv_flush1 hhl hvl (by omega))) (WR 0 _ (by omega) hxl (by omega)) (hid (dv_flush0 hpl hxl (by omega))) (WR 1 _ (by omega) hyl (by omega)) (hid dv_flush_off) (hid rfl) (hid hst) (cz _ _ _ _ _ _ (by omega)) (cn _ _ _ _ _ _ (by omega)) (cn _ _ _ _ _ _ (by omega)) (cn _ _ _ _ _ _ (by omega)) (cn _ _ _ _ _ _ (by omega)) (cn _ _ _ _ _ _ (by omega)) (cn _ _ _ _ _ _ (by omega)) (cn _ _ _ _ _ _ (by omega)) (cn _ _ _ _ _ _ (by omega)) (cn _ _ _ _ _ _ (by omega)) (cn _ _ _ _ _ _ (by omega)) (cn _ _ _ _ _ _ (by omega)) (hid (dw_read0 _ _)) (hid (dw_read1 _ _)) (HJ _ _ _ _ hj)
    · skip
      subst hEq
      exact over_5H o e (stubS o) (stubS (⟨e.view, o.opn, e.under, e.parent, e.client, e.session, e.request, e.oper, e.body⟩ : En)) _ _ _ _ _ _ _ _ _ _ _ _ _ _ _ _ _ _ _ w hf A l cap picks n HNB HL HRD HPI HPN HAW HRo HRe (HPr [] (by simp) o ho hO) (hid fun W hW => sstub_any o ho W hW) (HHd [] (by simp) o ho hO) (HV (layS (nextS []) (stubS o).bytes) (by omega)) (HPr (layS (nextS []) (packE o).1) (by omega) (⟨e.view, o.opn, e.under, e.parent, e.client, e.session, e.request, e.oper, e.body⟩ : En) he hE) (hid fun W hW => sstub_any (⟨e.view, o.opn, e.under, e.parent, e.client, e.session, e.request, e.oper, e.body⟩ : En) he W hW) (HHd (layS (nextS (layS (nextS []) (stubS o).bytes)) []) (by omega) (⟨e.view, o.opn, e.under, e.parent, e.client, e.session, e.request, e.oper, e.body⟩ : En) he hE) (hid mk0_dv) (WR 0 _ (by omega) hpl (by omega)) (WR 1 _ (by omega) hhl (by omega)) (hid (dv_flush01 (b384_len 0) (b384_len 0) hpl hhl (by omega))) (fu _ _) (WR 1 _ (by omega) hvl (by omega)) (hid (dv_flush1 hhl hvl (by omega))) (WR 0 _ (by omega) hxl (by omega)) (hid (dv_flush0 hpl hxl (by omega))) (WR 1 _ (by omega) hyl (by omega)) (hid dv_flush_off) (hid rfl) (hid hst) (cz _ _ _ _ _ _ (by omega)) (cn _ _ _ _ _ _ (by omega)) (cn _ _ _ _ _ _ (by omega)) (cn _ _ _ _ _ _ (by omega)) (cn _ _ _ _ _ _ (by omega)) (cn _ _ _ _ _ _ (by omega)) (cn _ _ _ _ _ _ (by omega)) (cn _ _ _ _ _ _ (by omega)) (cn _ _ _ _ _ _ (by omega)) (cn _ _ _ _ _ _ (by omega)) (cn _ _ _ _ _ _ (by omega)) (cn _ _ _ _ _ _ (by omega)) (hid (dw_read0 _ _)) (hid (dw_read1 _ _)) (HJ _ _ _ _ hj)
  · skip
    subst hEq
    exact over_6H o e (stubS o) (stubS (⟨e.view, o.opn, e.under, e.parent, e.client, e.session, e.request, e.oper, e.body⟩ : En)) _ _ _ _ _ _ _ _ _ _ _ _ _ _ _ _ _ _ w hf A l cap picks n HNB HL HRD HPI HPN HAW HRo HRe (HPr [] (by simp) o ho hO) (hid fun W hW => sstub_any o ho W hW) (HHd [] (by simp) o ho hO) (HV (layS (nextS []) (stubS o).bytes) (by omega)) (HPr (layS (nextS []) (packE o).1) (by omega) (⟨e.view, o.opn, e.under, e.parent, e.client, e.session, e.request, e.oper, e.body⟩ : En) he hE) (hid fun W hW => sstub_any (⟨e.view, o.opn, e.under, e.parent, e.client, e.session, e.request, e.oper, e.body⟩ : En) he W hW) (HHd (layS (nextS (layS (nextS []) (stubS o).bytes)) []) (by omega) (⟨e.view, o.opn, e.under, e.parent, e.client, e.session, e.request, e.oper, e.body⟩ : En) he hE) (hid mk0_dv) (WR 0 _ (by omega) hpl (by omega)) (WR 1 _ (by omega) hhl (by omega)) (hid (dv_flush01 (b384_len 0) (b384_len 0) hpl hhl (by omega))) (fu _ _) (WR 1 _ (by omega) hvl (by omega)) (hid (dv_flush1 hhl hvl (by omega))) (WR 0 _ (by omega) hxl (by omega)) (hid (dv_flush0 hpl hxl (by omega))) (WR 1 _ (by omega) hyl (by omega)) (hid (dv_flush1 hvl hyl (by omega))) (hid rfl)  (cn _ _ _ _ _ _ (by omega)) (cn _ _ _ _ _ _ (by omega)) (cn _ _ _ _ _ _ (by omega)) (cn _ _ _ _ _ _ (by omega)) (cn _ _ _ _ _ _ (by omega)) (cn _ _ _ _ _ _ (by omega)) (cn _ _ _ _ _ _ (by omega)) (cn _ _ _ _ _ _ (by omega)) (cn _ _ _ _ _ _ (by omega)) (cn _ _ _ _ _ _ (by omega)) (cn _ _ _ _ _ _ (by omega)) (hid (dw_read0 _ _)) (hid (dw_read1 _ _)) (HJ _ _ _ _ hnew)
theorem over_law12 (o : En) (ho : o.fits) (e : En) (he : e.fits) (n : Int) (hn : n ≤ 9223372036854775807) (A : Option Addr) (l cap : Nat) (picks : List Int) (w : World) (hl : l = picks.length) (hr : Rd w w.heap.size A (ints picks)) (hp : ∀ x ∈ picks, x ≤ 9223372036854775807) (hpn : l ≤ 9223372036854775807) (hf : Fd w) :
    Calls Tryd.prog 9 #[o.val, e.val, .int .i64 n, .slice A l cap] w (Yes w) := by
  have HAW := hid (fun W (hW : Fd W) => awake12_any W hW)
  have HRo := hid (fun W => eright_any o W)
  have he2 : (⟨e.view, o.opn, e.under, e.parent, e.client, e.session, e.request, e.oper, e.body⟩ : En).fits := ⟨⟨he.1.1, ho.1.2.1, he.1.2.2⟩, he.2⟩
  have HRe := hid (fun W => eright_any (⟨e.view, o.opn, e.under, e.parent, e.client, e.session, e.request, e.oper, e.body⟩ : En) W)
  by_cases hO : Rt o
  · rw [decide_eq_true hO] at HRo
    by_cases hE : Rt (⟨e.view, o.opn, e.under, e.parent, e.client, e.session, e.request, e.oper, e.body⟩ : En)
    · rw [decide_eq_true hE] at HRe
      exact over_yes o e ho hO _ rfl he2 hE n hn A l cap picks w hl hr hp hpn hf HRo HRe
    · rw [decide_eq_false hE] at HRe
      exact over_N2 o e _ n A l cap w hf HAW HRo HRe (hid mk0_dv)
  · rw [decide_eq_false hO] at HRo
    exact over_N1 o e _ n A l cap w hf HAW HRo (hid mk0_dv)
end Go.Proofs.YtdcoiehhnllhmaaDoor
