/-
  SlotRots: every way.
-/
import Derived.Test.YtdcoiehhnllhmaaDoorRo
namespace Go.Proofs.YtdcoiehhnllhmaaDoor
open Go.RowKit
set_option maxRecDepth 10000

set_option maxHeartbeats 1000000 in
theorem rots_N1 (e : En) (mask : UInt8) (which at_ : Int) (w : World) (hf : Fd w) (HAW : Hid (∀ W, Fd W → Calls Tryd.prog 10 #[] W (Yes W))) (HRi : Hid (∀ W, Calls Tryd.prog 27 #[.agg #[.int .i64 e.view, .int .i64 e.opn, .int .i64 e.under, .int .u64 (e.parent : Int), .int .i64 e.client, .int .i64 e.session, .int .i64 e.request, .int .i64 e.oper, .string e.body]] W (VE W (.bool false)))) :
    Calls Tryd.prog 7 #[.agg #[.int .i64 e.view, .int .i64 e.opn, .int .i64 e.under, .int .u64 (e.parent : Int), .int .i64 e.client, .int .i64 e.session, .int .i64 e.request, .int .i64 e.oper, .string e.body], .int .i64 which, .int .i64 at_, .int .u8 (mask.toNat : Int)] w (Yes w) := by
  have HZE := hid esize
  have HFd := hid hf
  clear hf
  go_enter Tryd.func7, Tryd.ntmps7
  go_wp2_with (first
    | (go_at_call 10; refine (HAW.out _ (HFd.out.below ((Below.refl w.heap.size w).alloc (Nat.le_refl _) _) HFd.out.1)).mono ?_; rintro x1 w1 ⟨rfl, hbq⟩; have hre := (Row.new w 24 #[.int .i64 e.view, .int .i64 e.opn, .int .i64 e.under, .int .u64 (e.parent : Int), .int .i64 e.client, .int .i64 e.session, .int .i64 e.request, .int .i64 e.oper, .string e.body]).below hbq (by simp); have hbe := ((Below.refl w.heap.size w).alloc (Nat.le_refl _) (.cells #[.int .i64 e.view, .int .i64 e.opn, .int .i64 e.under, .int .u64 (e.parent : Int), .int .i64 e.client, .int .i64 e.session, .int .i64 e.request, .int .i64 e.oper, .string e.body] 24)).trans (hbq.mono (by simp)); clear hbq)
    | (refine wpl_load_want rfl 24 (.tmp 4) rfl w.heap.size rfl 24 #[.int .i64 e.view, .int .i64 e.opn, .int .i64 e.under, .int .u64 (e.parent : Int), .int .i64 e.client, .int .i64 e.session, .int .i64 e.request, .int .i64 e.oper, .string e.body] (0, 0) _ (Row.arr (cs := #[.int .i64 e.view, .int .i64 e.opn, .int .i64 e.under, .int .u64 (e.parent : Int), .int .i64 e.client, .int .i64 e.session, .int .i64 e.request, .int .i64 e.oper, .string e.body]) hre) Tryd.underlying24 rfl HZE.out ?_)
    | (go_at_call 27; refine (HRi.out _).mono ?_; rintro x1 wq ⟨rfl, hbq⟩; replace hre := hre.below hbq hre.lt; replace hbe := hbe.trans (hbq.mono hbe.size); clear hbq))
  go_ret
  exact ⟨rfl, hbe⟩
set_option maxHeartbeats 1000000 in
theorem rots_N2 (e : En) (mask : UInt8) (which at_ : Int) (w : World) (hf : Fd w) (HAW : Hid (∀ W, Fd W → Calls Tryd.prog 10 #[] W (Yes W))) (HRi : Hid (∀ W, Calls Tryd.prog 27 #[.agg #[.int .i64 e.view, .int .i64 e.opn, .int .i64 e.under, .int .u64 (e.parent : Int), .int .i64 e.client, .int .i64 e.session, .int .i64 e.request, .int .i64 e.oper, .string e.body]] W (VE W (.bool true)))) (hm : ((mask.toNat : Int) == 0) = true) :
    Calls Tryd.prog 7 #[.agg #[.int .i64 e.view, .int .i64 e.opn, .int .i64 e.under, .int .u64 (e.parent : Int), .int .i64 e.client, .int .i64 e.session, .int .i64 e.request, .int .i64 e.oper, .string e.body], .int .i64 which, .int .i64 at_, .int .u8 (mask.toNat : Int)] w (Yes w) := by
  have HZE := hid esize
  have HFd := hid hf
  clear hf
  go_enter Tryd.func7, Tryd.ntmps7
  go_wp2_with (first
    | (go_at_call 10; refine (HAW.out _ (HFd.out.below ((Below.refl w.heap.size w).alloc (Nat.le_refl _) _) HFd.out.1)).mono ?_; rintro x1 w1 ⟨rfl, hbq⟩; have hre := (Row.new w 24 #[.int .i64 e.view, .int .i64 e.opn, .int .i64 e.under, .int .u64 (e.parent : Int), .int .i64 e.client, .int .i64 e.session, .int .i64 e.request, .int .i64 e.oper, .string e.body]).below hbq (by simp); have hbe := ((Below.refl w.heap.size w).alloc (Nat.le_refl _) (.cells #[.int .i64 e.view, .int .i64 e.opn, .int .i64 e.under, .int .u64 (e.parent : Int), .int .i64 e.client, .int .i64 e.session, .int .i64 e.request, .int .i64 e.oper, .string e.body] 24)).trans (hbq.mono (by simp)); clear hbq)
    | (refine wpl_load_want rfl 24 (.tmp 4) rfl w.heap.size rfl 24 #[.int .i64 e.view, .int .i64 e.opn, .int .i64 e.under, .int .u64 (e.parent : Int), .int .i64 e.client, .int .i64 e.session, .int .i64 e.request, .int .i64 e.oper, .string e.body] (0, 0) _ (Row.arr (cs := #[.int .i64 e.view, .int .i64 e.opn, .int .i64 e.under, .int .u64 (e.parent : Int), .int .i64 e.client, .int .i64 e.session, .int .i64 e.request, .int .i64 e.oper, .string e.body]) hre) Tryd.underlying24 rfl HZE.out ?_)
    | (go_at_call 27; refine (HRi.out _).mono ?_; rintro x1 wq ⟨rfl, hbq⟩; replace hre := hre.below hbq hre.lt; replace hbe := hbe.trans (hbq.mono hbe.size); clear hbq))
  go_ret
  exact ⟨rfl, hbe⟩
theorem mix_self (p : List UInt8) (k : Nat) : mixS p p k = p := by simp [mixS]
theorem turn_none (g : UInt8) (s : List UInt8) (hs : s.length ≤ 376) (mask : UInt8) (hm : mask ≠ 0) (k : Nat) (hk : k < (layS g s).length) (h4 : k < 384) : openS ((layS g s).set k ((layS g s)[k] ^^^ mask)) = ([], false) := by
  refine turns_not _ _ _ (lay_good _ _ hs) h4 ?_
  rw [List.getElem?_eq_getElem hk]
  intro e
  exact hm (xor_self_of _ mask (Option.some.inj e).symm)
set_option maxHeartbeats 1000000 in
theorem rots_law12 (e : En) (he : e.fits) (which at_ : Int) (mask : UInt8) (w : World) (hf : Fd w) :
    Calls Tryd.prog 7 #[e.val, .int .i64 which, .int .i64 at_, .int .u8 (mask.toNat : Int)] w (Yes w) := by
  have HAW := hid (fun W (hW : Fd W) => awake12_any W hW)
  have HRi := hid (fun W => eright_any e W)
  by_cases hR : Rt e
  case neg =>
    rw [decide_eq_false hR] at HRi
    exact rots_N1 e mask which at_ w hf HAW HRi
  rw [decide_eq_true hR] at HRi
  by_cases h0 : mask = 0
  · exact rots_N2 e mask which at_ w hf HAW HRi (by subst h0; rfl)
  have hm : ((mask.toNat : Int) == 0) = false := by
    rw [beq_eq_false_iff_ne]
    intro q
    exact h0 (UInt8.toNat_inj.1 (by exact_mod_cast q))
  have e0 : sb (⟨#[]⟩ : ByteArray) = [] := rfl
  have hps : (packE e).1.length ≤ 376 := by have := packE_rt he hR; omega
  have hbs : (stubS e).bytes.length ≤ 376 := by rw [sbytes_len]; omega
  have hpl : (layS (nextS []) (packE e).1).length = 384 := layS_len _ _ hps
  have hhl : (layS (nextS []) (stubS e).bytes).length = 384 := layS_len _ _ hbs
  have p1 : entryS (layS (nextS []) (packE e).1) = (e, true, true) := entry_lay he hR _
  have p2 : stubT (layS (nextS []) (stubS e).bytes) = (stubS e, true, true) := stub_lay (stubS_fits he) (stubS_ok hR) _
  have hk := cutS_lt at_
  have HCC := hid (cut_code at_)
  generalize cutS at_ = k at hk HCC
  have hk1 : k < (layS (nextS []) (packE e).1).length := by omega
  have hk2 : k < (layS (nextS []) (stubS e).bytes).length := by omega
  have t1 := turn_none (nextS []) (packE e).1 hps mask h0 k hk1 hk
  have t2 := turn_none (nextS []) (stubS e).bytes hbs mask h0 k hk2 hk
  have HPr : Hid (∀ W, Fd W → Calls Tryd.prog 12 #[.string ⟨#[]⟩, e.val] W fun x w' => x = .returned (.tuple #[.string ⟨(layS (nextS []) (packE e).1).toArray⟩, .int .i64 0]) ∧ Below W.heap.size W w') := hid fun W hW => by
    have h := sprep_any ⟨#[]⟩ e (by decide) W hW
    rw [e0, prep_ok he hR] at h
    exact h
  have HSt := hid (fun W (hW : Fd W) => sstub_any e he W hW)
  have HHd : Hid (∀ W, Calls Tryd.prog 14 #[.string ⟨#[]⟩, (stubS e).val] W fun x w' => x = .returned (.tuple #[.string ⟨(layS (nextS []) (stubS e).bytes).toArray⟩, .int .i64 0]) ∧ Below W.heap.size W w') := hid fun W => by
    have h := shdr_any ⟨#[]⟩ (stubS e) (stubS_fits he) (by decide) W
    rw [e0, hdr_ok (stubS_ok hR)] at h
    exact h
  have HJ : ∀ (la lb : List UInt8) (I : It), judgeS la lb e.opn = I → Hid (∀ W, Fd W → Calls Tryd.prog 24 #[.string ⟨la.toArray⟩, .string ⟨lb.toArray⟩, .int .i64 e.opn] W (VE W I.val)) := fun la lb I h => hid fun W hW => by
    have h1 := judge_any ⟨la.toArray⟩ ⟨lb.toArray⟩ e.opn W hW
    rw [sb_mk, sb_mk, h] at h1
    exact h1
  generalize layS (nextS []) (packE e).1 = p at *
  generalize layS (nextS []) (stubS e).bytes = q at *
  have hsz : ∀ {l : List UInt8}, l.length = 384 → (⟨l.toArray⟩ : ByteArray).size = 384 := fun h => by rw [← sb_len, sb_mk, h]
  have HMx : Hid (∀ W, Calls Tryd.prog 34 #[.string ⟨p.toArray⟩, .string ⟨p.toArray⟩, .int .i64 (k : Int)] W fun x w' => x = .returned (.string ⟨p.toArray⟩) ∧ Below W.heap.size W w') := hid fun W => by
    refine (mix_any ⟨p.toArray⟩ ⟨p.toArray⟩ k W (hsz hpl) (hsz hpl) (by omega)).mono ?_
    rintro x w' ⟨rfl, h⟩
    rw [sb_mk, mix_self]
    exact ⟨rfl, h.below (fun b hb => by cases hb) (Nat.le_refl _)⟩
  have HRP := hid (fun (W : World) (g m : Nat) (hr : FRow W g 5 (bvs (sb ⟨p.toArray⟩) ++ List.replicate m (.int .u8 0))) => turned_row hk1 mask W g m (by rw [sb_mk] at hr; exact hr))
  have HRH := hid (fun (W : World) (g m : Nat) (hr : FRow W g 5 (bvs (sb ⟨q.toArray⟩) ++ List.replicate m (.int .u8 0))) => turned_row hk2 mask W g m (by rw [sb_mk] at hr; exact hr))
  have HXP := hid (turn8 p[k] mask)
  have HXH := hid (turn8 q[k] mask)
  have m1 : Hid (384 = (p.set k (p[k] ^^^ mask)).length) := hid (by rw [List.length_set, hpl])
  have m2 : Hid (384 = (q.set k (q[k] ^^^ mask)).length) := hid (by rw [List.length_set, hhl])
  have hkI : (k : Int) < 384 := by omega
  by_cases w0 : bits .and .i64 which 3 = 0
  · exact rots_0 e (stubS e) _ _ _ _ mask _ _ _ _ which at_ k w hf HAW HRi hm HPr HSt HHd HCC hkI (hid hk) HMx (hsz hpl) (hsz hhl) HRP HRH HXP HXH m1 m2 (by simpa using w0) (HJ _ _ _ (judge_faulty hR (entry_none t1) p2))
  · by_cases w1 : bits .and .i64 which 3 = 1
    · exact rots_1 e (stubS e) _ _ _ _ mask _ _ _ _ which at_ k w hf HAW HRi hm HPr HSt HHd HCC hkI (hid hk) HMx (hsz hpl) (hsz hhl) HRP HRH HXP HXH m1 m2 (by simpa using w0) (by simpa using w1) (HJ _ _ _ (judge_lone p1 (stub_none t2)))
    · exact rots_2 e (stubS e) _ _ _ _ mask _ _ _ _ which at_ k w hf HAW HRi hm HPr HSt HHd HCC hkI (hid hk) HMx (hsz hpl) (hsz hhl) HRP HRH HXP HXH m1 m2 (by simpa using w0) (by simpa using w1) (HJ _ _ _ (judge_unsure (entry_none t1) (stub_none t2)))
end Go.Proofs.YtdcoiehhnllhmaaDoor
