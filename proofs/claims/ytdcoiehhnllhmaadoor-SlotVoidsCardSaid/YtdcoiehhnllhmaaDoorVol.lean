/-
  SlotVoids: every way.
-/
import Derived.Test.YtdcoiehhnllhmaaDoorVo1
import Derived.Test.YtdcoiehhnllhmaaDoorVo2
namespace Go.Proofs.YtdcoiehhnllhmaaDoor
open Go.RowKit
set_option maxRecDepth 10000

/-- an entry's two sectors -/
def pS (e : En) : List UInt8 := layS (nextS []) (packE e).1
def hS (e : En) : List UInt8 := layS (nextS []) (stubS e).bytes
theorem pack_le {e : En} (he : e.fits) (h : Rt e) : (packE e).1.length ≤ 376 := by have := packE_rt he h; omega
theorem pS_len {e : En} (he : e.fits) (h : Rt e) : (pS e).length = 384 := layS_len _ _ (pack_le he h)
theorem bytes_le (s : St) : s.bytes.length ≤ 376 := by rw [sbytes_len]; omega
theorem hS_len (e : En) : (hS e).length = 384 := layS_len _ _ (bytes_le _)
theorem void_le : ([] : List UInt8).length ≤ 376 := by simp
theorem lay_len_bytes (g : UInt8) {s : List UInt8} (h : s.length ≤ 376) : (sb (⟨(layS g s).toArray⟩ : ByteArray)).length = 384 := by rw [sb_mk]; exact layS_len g s h
theorem mk_size {l : List UInt8} (h : l.length = 384) : (⟨l.toArray⟩ : ByteArray).size = 384 := by rw [← sb_len, sb_mk, h]
set_option maxHeartbeats 1000000 in
theorem voids_N (e : En) (S0 : Sp) (n : Int) (A : Option Addr) (l cap : Nat) (w : World) (hf : Fd w) (HAW : Hid (∀ W, Fd W → Calls Tryd.prog 10 #[] W (Yes W)))
    (HRi : Hid (∀ W, Calls Tryd.prog 27 #[.agg #[.int .i64 e.view, .int .i64 e.opn, .int .i64 e.under, .int .u64 (e.parent : Int), .int .i64 e.client, .int .i64 e.session, .int .i64 e.request, .int .i64 e.oper, .string e.body]] W (VE W (.bool false)))) (HS0 : Hid (Sp.mk0 2 = S0)) :
    Calls Tryd.prog 8 #[.agg #[.int .i64 e.view, .int .i64 e.opn, .int .i64 e.under, .int .u64 (e.parent : Int), .int .i64 e.client, .int .i64 e.session, .int .i64 e.request, .int .i64 e.oper, .string e.body], .int .i64 n, .slice A l cap] w (Yes w) := by
  have HZE := hid esize
  have HFd := hid hf
  clear hf
  go_enter Tryd.func8, Tryd.ntmps8
  go_wp2_with (first
    | (go_at_call 10; refine (HAW.out _ (HFd.out.below ((Below.refl w.heap.size w).alloc (Nat.le_refl _) _) HFd.out.1)).mono ?_; rintro x w1 ⟨rfl, hbq⟩; have hre0 := (Row.new w 24 #[.int .i64 e.view, .int .i64 e.opn, .int .i64 e.under, .int .u64 (e.parent : Int), .int .i64 e.client, .int .i64 e.session, .int .i64 e.request, .int .i64 e.oper, .string e.body]).below hbq (by simp); have hbe := ((Below.refl w.heap.size w).alloc (Nat.le_refl _) (.cells #[.int .i64 e.view, .int .i64 e.opn, .int .i64 e.under, .int .u64 (e.parent : Int), .int .i64 e.client, .int .i64 e.session, .int .i64 e.request, .int .i64 e.oper, .string e.body] 24)).trans (hbq.mono (by simp)); clear hbq)
    | (go_at_call 26; refine (dk_new 2 _ (by omega) (by omega)).mono ?_; rintro x w2 ⟨p, gs, rfl, hd⟩; rw [HS0.out] at hd; unfold dptr; have HBN := hid hbe; clear hbe; have HRN0 := hid hre0; clear hre0; have hgs : w1.heap.size ≤ gs := (by obtain ⟨vw, _, h2, _⟩ := hd; exact h2 gs (by simp [fpD])))
    | (refine wpl_load_want rfl 24 (.tmp 3) rfl w.heap.size rfl 24 #[.int .i64 e.view, .int .i64 e.opn, .int .i64 e.under, .int .u64 (e.parent : Int), .int .i64 e.client, .int .i64 e.session, .int .i64 e.request, .int .i64 e.oper, .string e.body] (0, 0) _ (Row.arr (cs := #[.int .i64 e.view, .int .i64 e.opn, .int .i64 e.under, .int .u64 (e.parent : Int), .int .i64 e.client, .int .i64 e.session, .int .i64 e.request, .int .i64 e.oper, .string e.body]) (HRN0.out.below hd.below HRN0.out.lt)) Tryd.underlying24 rfl HZE.out ?_)
    | (go_at_call 27; refine (HRi.out _).mono ?_; rintro x wq ⟨rfl, hbq⟩; replace hd := hd.fr (Fr.of_below hbq); clear hbq))
  go_ret
  exact ⟨rfl, (HBN.out.trans (hd.below.mono HBN.out.size))⟩
theorem voids_law (e : En) (he : e.fits) (n : Int) (hn : n ≤ 9223372036854775807) (A : Option Addr) (l cap : Nat) (picks : List Int) (w : World) (hl : l = picks.length) (hr : Rd w w.heap.size A (ints picks)) (hp : ∀ x ∈ picks, x ≤ 9223372036854775807) (hpn : l ≤ 9223372036854775807) (hf : Fd w) :
    Calls Tryd.prog 8 #[e.val, .int .i64 n, .slice A l cap] w (Yes w) := by
  have HAW := hid (fun W (hW : Fd W) => awake12_any W hW)
  have HRi := hid (fun W => eright_any e W)
  by_cases hR : Rt e
  case neg =>
    rw [decide_eq_false hR] at HRi
    exact voids_N e _ n A l cap w hf HAW HRi (hid mk0_dv)
  rw [decide_eq_true hR] at HRi
  have e0 : sb (⟨#[]⟩ : ByteArray) = [] := rfl
  have hpl := pS_len he hR
  have hhl := hS_len e
  have hvl : (layS (nextS (hS e)) []).length = 384 := layS_len _ _ void_le
  have hwl : (layS (nextS (pS e)) []).length = 384 := layS_len _ _ void_le
  have HPr : Hid (∀ W, Fd W → Calls Tryd.prog 12 #[.string ⟨#[]⟩, e.val] W fun x w' => x = .returned (.tuple #[.string ⟨(pS e).toArray⟩, .int .i64 0]) ∧ Below W.heap.size W w') := hid fun W hW => by
    have h := sprep_any ⟨#[]⟩ e (by decide) W hW
    rw [e0, prep_ok he hR] at h
    exact h
  have HSt := hid (fun W (hW : Fd W) => sstub_any e he W hW)
  have HHd : Hid (∀ W, Calls Tryd.prog 14 #[.string ⟨#[]⟩, (stubS e).val] W fun x w' => x = .returned (.tuple #[.string ⟨(hS e).toArray⟩, .int .i64 0]) ∧ Below W.heap.size W w') := hid fun W => by
    have h := shdr_any ⟨#[]⟩ (stubS e) (stubS_fits he) (by decide) W
    rw [e0, hdr_ok (stubS_ok hR)] at h
    exact h
  have HV : ∀ q : List UInt8, q.length = 384 → Hid (∀ W, Calls Tryd.prog 18 #[.string ⟨q.toArray⟩] W fun x w' => x = .returned (.string ⟨(layS (nextS q) []).toArray⟩) ∧ Below W.heap.size W w') := fun q hq => hid fun W => by
    have h := svoid_any ⟨q.toArray⟩ (by rw [mk_size hq]; decide) W
    rw [sb_mk, void_ok] at h
    exact h
  have HVh := HV _ hhl
  have HVp := HV _ hpl
  clear HV
  have p1 : entryS (pS e) = (e, true, true) := entry_lay he hR _
  have p2 : stubT (hS e) = (stubS e, true, true) := stub_lay (stubS_fits he) (stubS_ok hR) _
  have v1 : ∀ g, stubT (layS g []) = (st0, false, true) := stub_void
  have mx := mix_cases (old := hS e) (s := []) hhl void_le (pickOf_le picks 0)
  have hkp := pickOf_le picks 0
  have HJ : ∀ (la lb : List UInt8) (I : It), judgeS la lb e.opn = I → Hid (∀ W, Fd W → Calls Tryd.prog 24 #[.string ⟨la.toArray⟩, .string ⟨lb.toArray⟩, .int .i64 e.opn] W (VE W I.val)) := fun la lb I h => hid fun W hW => by
    have h1 := judge_any ⟨la.toArray⟩ ⟨lb.toArray⟩ e.opn W hW
    rw [sb_mk, sb_mk, h] at h1
    exact h1
  have HNB := hid hn
  have HL := hid hl
  have HRD : Hid (∀ W, Below w.heap.size w W → Rd W w.heap.size A (ints picks)) := hid fun W hb => hr.below hb (Nat.le_refl _)
  have HPI := hid hp
  have HPN : Hid (picks.length ≤ 9223372036854775807) := hid (by rw [← hl]; exact hpn)
  have w0 : (dv (b384 0) (b384 0) [] true 0 0).write 0 (sb ⟨(pS e).toArray⟩) = (dv (b384 0) (b384 0) [⟨0, pS e⟩] true 0 1, 0) := by rw [sb_mk]; exact dv_write (k := 0) (by omega) hpl (by omega)
  have w1 : (dv (b384 0) (b384 0) [⟨0, pS e⟩] true 0 1).write 1 (sb ⟨(hS e).toArray⟩) = (dv (b384 0) (b384 0) [⟨0, pS e⟩, ⟨1, hS e⟩] true 0 2, 0) := by rw [sb_mk]; exact dv_write (k := 1) (by omega) hhl (by omega)
  have f0 : (dv (b384 0) (b384 0) [⟨0, pS e⟩, ⟨1, hS e⟩] true 0 2).flush = (dv (pS e) (hS e) [] true 0 3, 0) := dv_flush01 (b384_len 0) (b384_len 0) hpl hhl (by omega)
  have fu : (dv (pS e) (hS e) [] true 0 3).fuse n = (dv (pS e) (hS e) [] true n.toNat 3, 0) := dv_fuse n
  generalize n.toNat = f at fu
  have x0 : ∀ f c, f ≠ 1 → (dv (pS e) (hS e) [] true f c).write 1 (sb ⟨(layS (nextS (hS e)) []).toArray⟩) = (dv (pS e) (hS e) [⟨1, layS (nextS (hS e)) []⟩] true (f - 1) (c + 1), 0) := fun f c h => by rw [sb_mk]; exact dv_write (k := 1) (by omega) hvl h
  have x1 : ∀ f c, f ≠ 1 → (dv (pS e) (hS e) [⟨1, layS (nextS (hS e)) []⟩] true f c).flush = (dv (pS e) (layS (nextS (hS e)) []) [] true (f - 1) (c + 1), 0) := fun f c h => dv_flush1 hhl hvl h
  have x2 : ∀ f c, f ≠ 1 → (dv (pS e) (layS (nextS (hS e)) []) [] true f c).write 0 (sb ⟨(layS (nextS (pS e)) []).toArray⟩) = (dv (pS e) (layS (nextS (hS e)) []) [⟨0, layS (nextS (pS e)) []⟩] true (f - 1) (c + 1), 0) := fun f c h => by rw [sb_mk]; exact dv_write (k := 0) (by omega) hwl h
  have x3 : ∀ f c, f ≠ 1 → (dv (pS e) (layS (nextS (hS e)) []) [⟨0, layS (nextS (pS e)) []⟩] true f c).flush = (dv (layS (nextS (pS e)) []) (layS (nextS (hS e)) []) [] true (f - 1) (c + 1), 0) := fun f c h => dv_flush0 hpl hwl h
  have cn : ∀ (a b : List UInt8) (way : List Wr) (on : Bool) (l c : Nat), c ≤ 100 → Hid ((dv a b way on l c).count ≤ 1048576) := fun a b way on l c h => hid (by show c ≤ 1048576; omega)
  have cz : ∀ (a b : List UInt8) (m m' : Bool) (l c : Nat), c ≤ 100 → Hid ((dw a b m m' l c).count ≤ 1048576) := fun a b m m' l c h => hid (by show c ≤ 1048576; omega)
  by_cases h1 : f = 1
  · subst h1
    exact voids_0H e (stubS e) _ _ _ _ _ _ _ _ _ _ _ _ _ w hf A l cap picks n HNB HL HRD HPI HPN HAW HRi HPr HSt HHd HVh HVp (hid mk0_dv) (hid w0) (hid w1) (hid f0) (hid fu)
      (hid (by rw [sb_mk]; exact dv_write_off (k := 1) (by omega) hvl)) (hid rfl) (hid (dv_start picks)) (cz _ _ _ _ _ _ (by omega)) (cn _ _ _ _ _ _ (by omega)) (cn _ _ _ _ _ _ (by omega)) (cn _ _ _ _ _ _ (by omega)) (cn _ _ _ _ _ _ (by omega)) (cn _ _ _ _ _ _ (by omega)) (cn _ _ _ _ _ _ (by omega))
      (hid (dw_read0 _ _)) (hid (dw_read1 _ _)) (HJ _ _ _ (judge_holds hR p1 p2))
  by_cases h2 : f = 2
  · subst h2
    obtain ⟨m, hst⟩ := dv_start1 (a := pS e) (b := hS e) (s := layS (nextS (hS e)) []) (l := 0) (c := 5) picks
    have hj : judgeS (pS e) ((layS (nextS (hS e)) []).take (pickOf picks 0) ++ (hS e).drop (pickOf picks 0)) e.opn = ⟨1, stubS e, e⟩ ∨ judgeS (pS e) ((layS (nextS (hS e)) []).take (pickOf picks 0) ++ (hS e).drop (pickOf picks 0)) e.opn = it0 := by
      rcases mx with h | h | h
      · rw [h]; exact .inl (judge_holds hR p1 p2)
      · rw [h]; exact .inr (judge_lacks (v1 _) (.inl rfl))
      · exact .inl (judge_lone p1 (stub_none h))
    rcases hj with hj | hj
    · exact voids_1H e (stubS e) _ _ _ _ _ _ _ _ _ _ _ _ _ _ w hf A l cap picks n HNB HL HRD HPI HPN HAW HRi HPr HSt HHd HVh HVp (hid mk0_dv) (hid w0) (hid w1) (hid f0) (hid fu)
        (hid (x0 _ _ (by omega))) (hid dv_flush_off) (hid rfl) (hid hst) (cz _ _ _ _ _ _ (by omega)) (cn _ _ _ _ _ _ (by omega)) (cn _ _ _ _ _ _ (by omega)) (cn _ _ _ _ _ _ (by omega)) (cn _ _ _ _ _ _ (by omega)) (cn _ _ _ _ _ _ (by omega)) (cn _ _ _ _ _ _ (by omega)) (cn _ _ _ _ _ _ (by omega))
        (hid (dw_read0 _ _)) (hid (dw_read1 _ _)) (HJ _ _ _ hj)
    · exact voids_1L e (stubS e) _ _ _ _ _ _ _ _ _ _ _ _ _ _ w hf A l cap picks n HNB HL HRD HPI HPN HAW HRi HPr HSt HHd HVh HVp (hid mk0_dv) (hid w0) (hid w1) (hid f0) (hid fu)
        (hid (x0 _ _ (by omega))) (hid dv_flush_off) (hid rfl) (hid hst) (cz _ _ _ _ _ _ (by omega)) (cn _ _ _ _ _ _ (by omega)) (cn _ _ _ _ _ _ (by omega)) (cn _ _ _ _ _ _ (by omega)) (cn _ _ _ _ _ _ (by omega)) (cn _ _ _ _ _ _ (by omega)) (cn _ _ _ _ _ _ (by omega)) (cn _ _ _ _ _ _ (by omega))
        (hid (dw_read0 _ _)) (hid (dw_read1 _ _)) (HJ _ _ _ hj)
  by_cases h3 : f = 3
  · subst h3
    exact voids_2L e (stubS e) _ _ _ _ _ _ _ _ _ _ _ _ _ _ _ w hf A l cap picks n HNB HL HRD HPI HPN HAW HRi HPr HSt HHd HVh HVp (hid mk0_dv) (hid w0) (hid w1) (hid f0) (hid fu)
      (hid (x0 _ _ (by omega))) (hid (x1 _ _ (by omega))) (hid (by rw [sb_mk]; exact dv_write_off (k := 0) (by omega) hwl)) (hid rfl) (hid (dv_start picks)) (cz _ _ _ _ _ _ (by omega)) (cn _ _ _ _ _ _ (by omega)) (cn _ _ _ _ _ _ (by omega)) (cn _ _ _ _ _ _ (by omega)) (cn _ _ _ _ _ _ (by omega)) (cn _ _ _ _ _ _ (by omega)) (cn _ _ _ _ _ _ (by omega)) (cn _ _ _ _ _ _ (by omega)) (cn _ _ _ _ _ _ (by omega))
      (hid (dw_read0 _ _)) (hid (dw_read1 _ _)) (HJ _ _ _ (judge_lacks (v1 _) (.inl rfl)))
  by_cases h4 : f = 4
  · subst h4
    obtain ⟨m, hst⟩ := dv_start0 (a := pS e) (b := layS (nextS (hS e)) []) (s := layS (nextS (pS e)) []) (l := 0) (c := 7) picks
    exact voids_3L e (stubS e) _ _ _ _ _ _ _ _ _ _ _ _ _ _ _ _ w hf A l cap picks n HNB HL HRD HPI HPN HAW HRi HPr HSt HHd HVh HVp (hid mk0_dv) (hid w0) (hid w1) (hid f0) (hid fu)
      (hid (x0 _ _ (by omega))) (hid (x1 _ _ (by omega))) (hid (x2 _ _ (by omega))) (hid dv_flush_off) (hid rfl) (hid hst) (cz _ _ _ _ _ _ (by omega)) (cn _ _ _ _ _ _ (by omega)) (cn _ _ _ _ _ _ (by omega)) (cn _ _ _ _ _ _ (by omega)) (cn _ _ _ _ _ _ (by omega)) (cn _ _ _ _ _ _ (by omega)) (cn _ _ _ _ _ _ (by omega)) (cn _ _ _ _ _ _ (by omega)) (cn _ _ _ _ _ _ (by omega)) (cn _ _ _ _ _ _ (by omega))
      (hid (dw_read0 _ _)) (hid (dw_read1 _ _)) (HJ _ _ _ (judge_lacks (v1 _) (.inl rfl)))
  · exact voids_4L e (stubS e) _ _ _ _ _ _ _ _ _ _ _ _ _ _ _ w hf A l cap picks n HNB HL HRD HPI HPN HAW HRi HPr HSt HHd HVh HVp (hid mk0_dv) (hid w0) (hid w1) (hid f0) (hid fu)
      (hid (x0 _ _ (by omega))) (hid (x1 _ _ (by omega))) (hid (x2 _ _ (by omega))) (hid (x3 _ _ (by omega))) (hid rfl) (cn _ _ _ _ _ _ (by omega)) (cn _ _ _ _ _ _ (by omega)) (cn _ _ _ _ _ _ (by omega)) (cn _ _ _ _ _ _ (by omega)) (cn _ _ _ _ _ _ (by omega)) (cn _ _ _ _ _ _ (by omega)) (cn _ _ _ _ _ _ (by omega)) (cn _ _ _ _ _ _ (by omega)) (cn _ _ _ _ _ _ (by omega))
      (hid (dw_read0 _ _)) (hid (dw_read1 _ _)) (HJ _ _ _ (judge_lacks (v1 _) (.inl rfl)))
end Go.Proofs.YtdcoiehhnllhmaaDoor
