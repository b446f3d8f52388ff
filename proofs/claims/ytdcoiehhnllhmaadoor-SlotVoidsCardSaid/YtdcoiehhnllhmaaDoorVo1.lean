/-
  The walk of SlotVoids.
-/
import Derived.Test.YtdcoiehhnllhmaaDoorM20
namespace Go.Proofs.YtdcoiehhnllhmaaDoor
open Go.RowKit
set_option maxRecDepth 10000

set_option maxHeartbeats 2000000 in
theorem voids_0H (e : En) (t : St) (P H VH VP : ByteArray) (la lb : List UInt8) (S0 S1 S2 S3 S4 S5 SZ : Sp) (w : World) (hf : Fd w) (A : Option Addr) (l cap : Nat) (picks : List Int) (n : Int) (HNB : Hid (n ≤ 9223372036854775807)) (HL : Hid (l = picks.length)) (HRD : Hid (∀ W, Below w.heap.size w W → Rd W w.heap.size A (ints picks))) (HPI : Hid (∀ x ∈ picks, x ≤ 9223372036854775807)) (HPN : Hid (picks.length ≤ 9223372036854775807))
    (HAW : Hid (∀ W, Fd W → Calls Tryd.prog 10 #[] W (Yes W)))
    (HRi : Hid (∀ W, Calls Tryd.prog 27 #[.agg #[.int .i64 e.view, .int .i64 e.opn, .int .i64 e.under, .int .u64 (e.parent : Int), .int .i64 e.client, .int .i64 e.session, .int .i64 e.request, .int .i64 e.oper, .string e.body]] W (VE W (.bool true))))
    (HPr : Hid (∀ W, Fd W → Calls Tryd.prog 12 #[.string ⟨#[]⟩, .agg #[.int .i64 e.view, .int .i64 e.opn, .int .i64 e.under, .int .u64 (e.parent : Int), .int .i64 e.client, .int .i64 e.session, .int .i64 e.request, .int .i64 e.oper, .string e.body]] W fun e w' => e = .returned (.tuple #[.string P, .int .i64 0]) ∧ Below W.heap.size W w'))
    (HSt : Hid (∀ W, Fd W → Calls Tryd.prog 16 #[.agg #[.int .i64 e.view, .int .i64 e.opn, .int .i64 e.under, .int .u64 (e.parent : Int), .int .i64 e.client, .int .i64 e.session, .int .i64 e.request, .int .i64 e.oper, .string e.body]] W (VE W (.agg #[.int .i64 t.opn, .int .i64 t.view, .int .i64 t.under, .int .u64 (t.parent : Int), .int .u64 (t.sum : Int)]))))
    (HHd : Hid (∀ W, Calls Tryd.prog 14 #[.string ⟨#[]⟩, .agg #[.int .i64 t.opn, .int .i64 t.view, .int .i64 t.under, .int .u64 (t.parent : Int), .int .u64 (t.sum : Int)]] W fun e w' => e = .returned (.tuple #[.string H, .int .i64 0]) ∧ Below W.heap.size W w'))
    (HVh : Hid (∀ W, Calls Tryd.prog 18 #[.string H] W fun e w' => e = .returned (.string VH) ∧ Below W.heap.size W w'))
    (HVp : Hid (∀ W, Calls Tryd.prog 18 #[.string P] W fun e w' => e = .returned (.string VP) ∧ Below W.heap.size W w'))
    (HS0 : Hid (Sp.mk0 2 = S0))
    (HW0 : Hid (S0.write 0 (sb P) = (S1, 0)))
    (HW1 : Hid (S1.write 1 (sb H) = (S2, 0)))
    (HF0 : Hid (S2.flush = (S3, 0)))
    (HFu : Hid (S3.fuse n = (S4, 0)))
    (HX0 : Hid (S4.write 1 (sb VH) = (S5, 6)))
    (HON : Hid (S5.on = false))
    (HST : Hid (S5.start picks = (SZ, 0)))
    (HCZ : Hid (SZ.count ≤ 1048576))
    (HC0 : Hid (S0.count ≤ 1048576))
    (HC1 : Hid (S1.count ≤ 1048576))
    (HC2 : Hid (S2.count ≤ 1048576))
    (HC3 : Hid (S3.count ≤ 1048576))
    (HC4 : Hid (S4.count ≤ 1048576))
    (HC5 : Hid (S5.count ≤ 1048576))
    (HR0 : Hid (SZ.read 0 = (la, 0)))
    (HR1 : Hid (SZ.read 1 = (lb, 0)))
    (HJ : Hid (∀ W, Fd W → Calls Tryd.prog 24 #[.string ⟨la.toArray⟩, .string ⟨lb.toArray⟩, .int .i64 e.opn] W (VE W (.agg #[.int .i64 1, .int .i64 t.opn, .int .i64 t.view, .int .i64 t.under, .int .u64 (t.parent : Int), .int .u64 (t.sum : Int), .int .i64 e.view, .int .i64 e.opn, .int .i64 e.under, .int .u64 (e.parent : Int), .int .i64 e.client, .int .i64 e.session, .int .i64 e.request, .int .i64 e.oper, .string e.body])))) :
    Calls Tryd.prog 8 #[.agg #[.int .i64 e.view, .int .i64 e.opn, .int .i64 e.under, .int .u64 (e.parent : Int), .int .i64 e.client, .int .i64 e.session, .int .i64 e.request, .int .i64 e.oper, .string e.body], .int .i64 n, .slice A l cap] w (Yes w) := by
  have qq : True := (fun _ _ => trivial) HVp HC3
  clear qq
  have HZE := hid esize
  have HZI := hid isize
  have HFd := hid hf
  clear hf
  go_enter Tryd.func8, Tryd.ntmps8
  go_wp2_with (first
    | (go_at_call 10; refine (HAW.out _ (HFd.out.below ((Below.refl w.heap.size w).alloc (Nat.le_refl _) _) HFd.out.1)).mono ?_; rintro x w1 ⟨rfl, hbq⟩; have hre0 := (Row.new w 24 #[.int .i64 e.view, .int .i64 e.opn, .int .i64 e.under, .int .u64 (e.parent : Int), .int .i64 e.client, .int .i64 e.session, .int .i64 e.request, .int .i64 e.oper, .string e.body]).below hbq (by simp); have hbe := ((Below.refl w.heap.size w).alloc (Nat.le_refl _) (.cells #[.int .i64 e.view, .int .i64 e.opn, .int .i64 e.under, .int .u64 (e.parent : Int), .int .i64 e.client, .int .i64 e.session, .int .i64 e.request, .int .i64 e.oper, .string e.body] 24)).trans (hbq.mono (by simp)); clear hbq)
    | (go_at_call 26; refine (dk_new 2 _ (by omega) (by omega)).mono ?_; rintro x w2 ⟨p, gs, rfl, hd⟩; rw [HS0.out] at hd; unfold dptr; have HBN := hid hbe; have HLB := hid hbe.size; clear hbe; have HRN0 := hid hre0; have HLT0 := hid hre0.lt; clear hre0; have hgs : w1.heap.size ≤ gs := (by obtain ⟨vw, _, h2, _⟩ := hd; exact h2 gs (by simp [fpD])))
    | ((with_reducible show wpList _ _ _ ({ dst := _, op := .load 24 (.tmp 3), type := _, pos := _, after := _, guard := _ } :: _) _ _); refine wpl_load_want rfl 24 (.tmp 3) rfl w.heap.size rfl 24 #[.int .i64 e.view, .int .i64 e.opn, .int .i64 e.under, .int .u64 (e.parent : Int), .int .i64 e.client, .int .i64 e.session, .int .i64 e.request, .int .i64 e.oper, .string e.body] (0, 0) _ (Row.arr (cs := #[.int .i64 e.view, .int .i64 e.opn, .int .i64 e.under, .int .u64 (e.parent : Int), .int .i64 e.client, .int .i64 e.session, .int .i64 e.request, .int .i64 e.oper, .string e.body]) (HRN0.out.below hd.below HLT0.out)) Tryd.underlying24 rfl HZE.out ?_)
    | (go_at_call 27; refine (HRi.out _).mono ?_; rintro x wq ⟨rfl, hbq⟩; replace hd := hd.fr (Fr.of_below hbq); clear hbq)
    | (go_at_call 12; refine (HPr.out _ (HFd.out.below (HBN.out.trans (hd.below.mono HLB.out)) HFd.out.1)).mono ?_; rintro x wq ⟨rfl, hbq⟩; replace hd := hd.fr (Fr.of_below hbq); clear hbq)
    | (go_at_call 16; refine (HSt.out _ (HFd.out.below (HBN.out.trans (hd.below.mono HLB.out)) HFd.out.1)).mono ?_; rintro x wq ⟨rfl, hbq⟩; replace hd := hd.fr (Fr.of_below hbq); clear hbq)
    | (go_at_call 14; refine (HHd.out _).mono ?_; rintro x wq ⟨rfl, hbq⟩; replace hd := hd.fr (Fr.of_below hbq); clear hbq)
    | (go_at_call_of 18 (Value.string H); refine (HVh.out _).mono ?_; rintro x wq ⟨rfl, hbq⟩; replace hd := hd.fr (Fr.of_below hbq); clear hbq)
    | (go_at_call_of 18 (Value.string P); refine (HVp.out _).mono ?_; rintro x wq ⟨rfl, hbq⟩; replace hd := hd.fr (Fr.of_below hbq); clear hbq)
    | (go_at_call 28; (first | refine (dk_write hd HC0.out 0 P HW0.out).mono ?_ | refine (dk_write hd HC1.out 1 H HW1.out).mono ?_ | refine (dk_write hd HC4.out 1 VH HX0.out).mono ?_); rintro x wq ⟨rfl, hq⟩; replace hd := hq; clear hq)
    | (go_at_call 29; (first | refine (dk_flush hd HC2.out HF0.out).mono ?_); rintro x wq ⟨rfl, hq⟩; replace hd := hq; clear hq)
    | (go_at_call 30; refine (dk_fuse hd n HNB.out HFu.out).mono ?_; rintro x wq ⟨rfl, hq⟩; replace hd := hq; clear hq)
    | (go_at_call 31; refine (dk_on hd HON.out).mono ?_; rintro x wq ⟨rfl, rfl⟩)
    | (go_at_call 32; refine (dk_start hd HC5.out picks A l cap w.heap.size HL.out (HRD.out _ (HBN.out.trans (hd.below.mono HLB.out))) HPI.out HPN.out (fun hne g o hA e => by obtain ⟨g', o', e2, hlt, _⟩ := HRD.out _ (HBN.out.trans (hd.below.mono HLB.out)) (by intro e; exact hne (by simpa [ints] using e)); rw [hA] at e2; cases e2; have := HLB.out; omega) HST.out).mono ?_; rintro x wq ⟨rfl, hq⟩; replace hd := hq; clear hq)
    | (go_at_call_of 33 (Value.int IntKind.i64 0); refine (dk_read hd HCZ.out 0 HR0.out).mono ?_; rintro x wq ⟨rfl, hq⟩; replace hd := hq; clear hq; have he1 := (HRN0.out.below hd.below HLT0.out).at_ 1 _ rfl)
    | (go_at_call_of 33 (Value.int IntKind.i64 1); refine (dk_read hd HCZ.out 1 HR1.out).mono ?_; rintro x wq ⟨rfl, hq⟩; replace hd := hq; clear hq; have he1 := (HRN0.out.below hd.below HLT0.out).at_ 1 _ rfl)
    | (go_at_call 24; refine (HJ.out _ (HFd.out.below (HBN.out.trans (hd.below.mono HLB.out)) HFd.out.1)).mono ?_; rintro x wj ⟨rfl, hbq⟩; replace hd := hd.fr (Fr.of_below hbq); clear hbq)
    | ((with_reducible show wpList _ _ _ ({ dst := none, op := .store _ (.tmp 18) (.tmp 94), type := _, pos := _, after := _, guard := _ } :: _) _ _); refine wpl_store_st rfl (.tmp 18) (.tmp 94) rfl (n := 15) HZI.out wj.heap.size #[.int .i64 0, .int .i64 0, .int .i64 0, .int .i64 0, .int .u64 0, .int .u64 0, .int .i64 0, .int .i64 0, .int .i64 0, .int .u64 0, .int .i64 0, .int .i64 0, .int .i64 0, .int .i64 0, .string ⟨#[]⟩] #[.int .i64 1, .int .i64 t.opn, .int .i64 t.view, .int .i64 t.under, .int .u64 (t.parent : Int), .int .u64 (t.sum : Int), .int .i64 e.view, .int .i64 e.opn, .int .i64 e.under, .int .u64 (e.parent : Int), .int .i64 e.client, .int .i64 e.session, .int .i64 e.request, .int .i64 e.oper, .string e.body] rfl rfl (Row.new _ _ _) ?_ (hid rfl) (hid rfl) (hid (by simp [Value.oneCell'])); intro wk HRK HBK; have hrf0 := ((HRN0.out.below hd.below HLT0.out).alloc (.cells #[.int .i64 0, .int .i64 0, .int .i64 0, .int .i64 0, .int .u64 0, .int .u64 0, .int .i64 0, .int .i64 0, .int .i64 0, .int .u64 0, .int .i64 0, .int .i64 0, .int .i64 0, .int .i64 0, .string ⟨#[]⟩] 41)).grown HBK (by have := (HRN0.out.below hd.below HLT0.out).lt; intro e; have := Option.some.inj e; omega); have hbf := ((HBN.out.trans (hd.below.mono HLB.out)).alloc (HBN.out.trans (hd.below.mono HLB.out)).size (.cells #[.int .i64 0, .int .i64 0, .int .i64 0, .int .i64 0, .int .u64 0, .int .u64 0, .int .i64 0, .int .i64 0, .int .i64 0, .int .u64 0, .int .i64 0, .int .i64 0, .int .i64 0, .int .i64 0, .string ⟨#[]⟩] 41)).trans (below_grown HBK (HBN.out.trans (hd.below.mono HLB.out)).size (by have := (HBN.out.trans (hd.below.mono HLB.out)).size; simp; omega)); have hk0 : wk.cell? ⟨wj.heap.size, 0, none⟩ = some (.int .i64 1) := HRK.at_ 0 _ rfl)
    | ((with_reducible show wpList _ _ _ ({ dst := some 102, op := _, type := _, pos := _, after := _, guard := _ } :: _) _ _); refine wpl_load_midw rfl 24 (.tmp 101) rfl wj.heap.size 6 rfl (En.cells e).toList _ (item_entry (⟨1, t, e⟩ : It) HRK) Tryd.underlying24 rfl HZE.out ?_)
    | ((with_reducible show wpList _ _ _ ({ dst := _, op := .load 24 (.tmp 3), type := _, pos := _, after := _, guard := _ } :: _) _ _); refine wpl_load_want rfl 24 (.tmp 3) rfl w.heap.size rfl 24 #[.int .i64 e.view, .int .i64 e.opn, .int .i64 e.under, .int .u64 (e.parent : Int), .int .i64 e.client, .int .i64 e.session, .int .i64 e.request, .int .i64 e.oper, .string e.body] (0, 0) _ (Row.arr (cs := #[.int .i64 e.view, .int .i64 e.opn, .int .i64 e.under, .int .u64 (e.parent : Int), .int .i64 e.client, .int .i64 e.session, .int .i64 e.request, .int .i64 e.oper, .string e.body]) hrf0) Tryd.underlying24 rfl HZE.out ?_)
    | ((with_reducible show wpList _ _ _ ({ dst := some 104, op := _, type := _, pos := _, after := _, guard := _ } :: _) _ _); refine wpl_eqe2 rfl e e true (.tmp 102) (.tmp 103) _ rfl rfl rfl (hid (by simp)) ?_))
  go_ret
  exact ⟨rfl, hbf⟩
set_option maxHeartbeats 2000000 in
theorem voids_1H (e : En) (t : St) (P H VH VP : ByteArray) (la lb : List UInt8) (S0 S1 S2 S3 S4 S5 S6 SZ : Sp) (w : World) (hf : Fd w) (A : Option Addr) (l cap : Nat) (picks : List Int) (n : Int) (HNB : Hid (n ≤ 9223372036854775807)) (HL : Hid (l = picks.length)) (HRD : Hid (∀ W, Below w.heap.size w W → Rd W w.heap.size A (ints picks))) (HPI : Hid (∀ x ∈ picks, x ≤ 9223372036854775807)) (HPN : Hid (picks.length ≤ 9223372036854775807))
    (HAW : Hid (∀ W, Fd W → Calls Tryd.prog 10 #[] W (Yes W)))
    (HRi : Hid (∀ W, Calls Tryd.prog 27 #[.agg #[.int .i64 e.view, .int .i64 e.opn, .int .i64 e.under, .int .u64 (e.parent : Int), .int .i64 e.client, .int .i64 e.session, .int .i64 e.request, .int .i64 e.oper, .string e.body]] W (VE W (.bool true))))
    (HPr : Hid (∀ W, Fd W → Calls Tryd.prog 12 #[.string ⟨#[]⟩, .agg #[.int .i64 e.view, .int .i64 e.opn, .int .i64 e.under, .int .u64 (e.parent : Int), .int .i64 e.client, .int .i64 e.session, .int .i64 e.request, .int .i64 e.oper, .string e.body]] W fun e w' => e = .returned (.tuple #[.string P, .int .i64 0]) ∧ Below W.heap.size W w'))
    (HSt : Hid (∀ W, Fd W → Calls Tryd.prog 16 #[.agg #[.int .i64 e.view, .int .i64 e.opn, .int .i64 e.under, .int .u64 (e.parent : Int), .int .i64 e.client, .int .i64 e.session, .int .i64 e.request, .int .i64 e.oper, .string e.body]] W (VE W (.agg #[.int .i64 t.opn, .int .i64 t.view, .int .i64 t.under, .int .u64 (t.parent : Int), .int .u64 (t.sum : Int)]))))
    (HHd : Hid (∀ W, Calls Tryd.prog 14 #[.string ⟨#[]⟩, .agg #[.int .i64 t.opn, .int .i64 t.view, .int .i64 t.under, .int .u64 (t.parent : Int), .int .u64 (t.sum : Int)]] W fun e w' => e = .returned (.tuple #[.string H, .int .i64 0]) ∧ Below W.heap.size W w'))
    (HVh : Hid (∀ W, Calls Tryd.prog 18 #[.string H] W fun e w' => e = .returned (.string VH) ∧ Below W.heap.size W w'))
    (HVp : Hid (∀ W, Calls Tryd.prog 18 #[.string P] W fun e w' => e = .returned (.string VP) ∧ Below W.heap.size W w'))
    (HS0 : Hid (Sp.mk0 2 = S0))
    (HW0 : Hid (S0.write 0 (sb P) = (S1, 0)))
    (HW1 : Hid (S1.write 1 (sb H) = (S2, 0)))
    (HF0 : Hid (S2.flush = (S3, 0)))
    (HFu : Hid (S3.fuse n = (S4, 0)))
    (HX0 : Hid (S4.write 1 (sb VH) = (S5, 0)))
    (HX1 : Hid (S5.flush = (S6, 6)))
    (HON : Hid (S6.on = false))
    (HST : Hid (S6.start picks = (SZ, 0)))
    (HCZ : Hid (SZ.count ≤ 1048576))
    (HC0 : Hid (S0.count ≤ 1048576))
    (HC1 : Hid (S1.count ≤ 1048576))
    (HC2 : Hid (S2.count ≤ 1048576))
    (HC3 : Hid (S3.count ≤ 1048576))
    (HC4 : Hid (S4.count ≤ 1048576))
    (HC5 : Hid (S5.count ≤ 1048576))
    (HC6 : Hid (S6.count ≤ 1048576))
    (HR0 : Hid (SZ.read 0 = (la, 0)))
    (HR1 : Hid (SZ.read 1 = (lb, 0)))
    (HJ : Hid (∀ W, Fd W → Calls Tryd.prog 24 #[.string ⟨la.toArray⟩, .string ⟨lb.toArray⟩, .int .i64 e.opn] W (VE W (.agg #[.int .i64 1, .int .i64 t.opn, .int .i64 t.view, .int .i64 t.under, .int .u64 (t.parent : Int), .int .u64 (t.sum : Int), .int .i64 e.view, .int .i64 e.opn, .int .i64 e.under, .int .u64 (e.parent : Int), .int .i64 e.client, .int .i64 e.session, .int .i64 e.request, .int .i64 e.oper, .string e.body])))) :
    Calls Tryd.prog 8 #[.agg #[.int .i64 e.view, .int .i64 e.opn, .int .i64 e.under, .int .u64 (e.parent : Int), .int .i64 e.client, .int .i64 e.session, .int .i64 e.request, .int .i64 e.oper, .string e.body], .int .i64 n, .slice A l cap] w (Yes w) := by
  have qq : True := (fun _ _ => trivial) HVp HC3
  clear qq
  have HZE := hid esize
  have HZI := hid isize
  have HFd := hid hf
  clear hf
  go_enter Tryd.func8, Tryd.ntmps8
  go_wp2_with (first
    | (go_at_call 10; refine (HAW.out _ (HFd.out.below ((Below.refl w.heap.size w).alloc (Nat.le_refl _) _) HFd.out.1)).mono ?_; rintro x w1 ⟨rfl, hbq⟩; have hre0 := (Row.new w 24 #[.int .i64 e.view, .int .i64 e.opn, .int .i64 e.under, .int .u64 (e.parent : Int), .int .i64 e.client, .int .i64 e.session, .int .i64 e.request, .int .i64 e.oper, .string e.body]).below hbq (by simp); have hbe := ((Below.refl w.heap.size w).alloc (Nat.le_refl _) (.cells #[.int .i64 e.view, .int .i64 e.opn, .int .i64 e.under, .int .u64 (e.parent : Int), .int .i64 e.client, .int .i64 e.session, .int .i64 e.request, .int .i64 e.oper, .string e.body] 24)).trans (hbq.mono (by simp)); clear hbq)
    | (go_at_call 26; refine (dk_new 2 _ (by omega) (by omega)).mono ?_; rintro x w2 ⟨p, gs, rfl, hd⟩; rw [HS0.out] at hd; unfold dptr; have HBN := hid hbe; have HLB := hid hbe.size; clear hbe; have HRN0 := hid hre0; have HLT0 := hid hre0.lt; clear hre0; have hgs : w1.heap.size ≤ gs := (by obtain ⟨vw, _, h2, _⟩ := hd; exact h2 gs (by simp [fpD])))
    | ((with_reducible show wpList _ _ _ ({ dst := _, op := .load 24 (.tmp 3), type := _, pos := _, after := _, guard := _ } :: _) _ _); refine wpl_load_want rfl 24 (.tmp 3) rfl w.heap.size rfl 24 #[.int .i64 e.view, .int .i64 e.opn, .int .i64 e.under, .int .u64 (e.parent : Int), .int .i64 e.client, .int .i64 e.session, .int .i64 e.request, .int .i64 e.oper, .string e.body] (0, 0) _ (Row.arr (cs := #[.int .i64 e.view, .int .i64 e.opn, .int .i64 e.under, .int .u64 (e.parent : Int), .int .i64 e.client, .int .i64 e.session, .int .i64 e.request, .int .i64 e.oper, .string e.body]) (HRN0.out.below hd.below HLT0.out)) Tryd.underlying24 rfl HZE.out ?_)
    | (go_at_call 27; refine (HRi.out _).mono ?_; rintro x wq ⟨rfl, hbq⟩; replace hd := hd.fr (Fr.of_below hbq); clear hbq)
    | (go_at_call 12; refine (HPr.out _ (HFd.out.below (HBN.out.trans (hd.below.mono HLB.out)) HFd.out.1)).mono ?_; rintro x wq ⟨rfl, hbq⟩; replace hd := hd.fr (Fr.of_below hbq); clear hbq)
    | (go_at_call 16; refine (HSt.out _ (HFd.out.below (HBN.out.trans (hd.below.mono HLB.out)) HFd.out.1)).mono ?_; rintro x wq ⟨rfl, hbq⟩; replace hd := hd.fr (Fr.of_below hbq); clear hbq)
    | (go_at_call 14; refine (HHd.out _).mono ?_; rintro x wq ⟨rfl, hbq⟩; replace hd := hd.fr (Fr.of_below hbq); clear hbq)
    | (go_at_call_of 18 (Value.string H); refine (HVh.out _).mono ?_; rintro x wq ⟨rfl, hbq⟩; replace hd := hd.fr (Fr.of_below hbq); clear hbq)
    | (go_at_call_of 18 (Value.string P); refine (HVp.out _).mono ?_; rintro x wq ⟨rfl, hbq⟩; replace hd := hd.fr (Fr.of_below hbq); clear hbq)
    | (go_at_call 28; (first | refine (dk_write hd HC0.out 0 P HW0.out).mono ?_ | refine (dk_write hd HC1.out 1 H HW1.out).mono ?_ | refine (dk_write hd HC4.out 1 VH HX0.out).mono ?_); rintro x wq ⟨rfl, hq⟩; replace hd := hq; clear hq)
    | (go_at_call 29; (first | refine (dk_flush hd HC2.out HF0.out).mono ?_ | refine (dk_flush hd HC5.out HX1.out).mono ?_); rintro x wq ⟨rfl, hq⟩; replace hd := hq; clear hq)
    | (go_at_call 30; refine (dk_fuse hd n HNB.out HFu.out).mono ?_; rintro x wq ⟨rfl, hq⟩; replace hd := hq; clear hq)
    | (go_at_call 31; refine (dk_on hd HON.out).mono ?_; rintro x wq ⟨rfl, rfl⟩)
    | (go_at_call 32; refine (dk_start hd HC6.out picks A l cap w.heap.size HL.out (HRD.out _ (HBN.out.trans (hd.below.mono HLB.out))) HPI.out HPN.out (fun hne g o hA e => by obtain ⟨g', o', e2, hlt, _⟩ := HRD.out _ (HBN.out.trans (hd.below.mono HLB.out)) (by intro e; exact hne (by simpa [ints] using e)); rw [hA] at e2; cases e2; have := HLB.out; omega) HST.out).mono ?_; rintro x wq ⟨rfl, hq⟩; replace hd := hq; clear hq)
    | (go_at_call_of 33 (Value.int IntKind.i64 0); refine (dk_read hd HCZ.out 0 HR0.out).mono ?_; rintro x wq ⟨rfl, hq⟩; replace hd := hq; clear hq; have he1 := (HRN0.out.below hd.below HLT0.out).at_ 1 _ rfl)
    | (go_at_call_of 33 (Value.int IntKind.i64 1); refine (dk_read hd HCZ.out 1 HR1.out).mono ?_; rintro x wq ⟨rfl, hq⟩; replace hd := hq; clear hq; have he1 := (HRN0.out.below hd.below HLT0.out).at_ 1 _ rfl)
    | (go_at_call 24; refine (HJ.out _ (HFd.out.below (HBN.out.trans (hd.below.mono HLB.out)) HFd.out.1)).mono ?_; rintro x wj ⟨rfl, hbq⟩; replace hd := hd.fr (Fr.of_below hbq); clear hbq)
    | ((with_reducible show wpList _ _ _ ({ dst := none, op := .store _ (.tmp 18) (.tmp 94), type := _, pos := _, after := _, guard := _ } :: _) _ _); refine wpl_store_st rfl (.tmp 18) (.tmp 94) rfl (n := 15) HZI.out wj.heap.size #[.int .i64 0, .int .i64 0, .int .i64 0, .int .i64 0, .int .u64 0, .int .u64 0, .int .i64 0, .int .i64 0, .int .i64 0, .int .u64 0, .int .i64 0, .int .i64 0, .int .i64 0, .int .i64 0, .string ⟨#[]⟩] #[.int .i64 1, .int .i64 t.opn, .int .i64 t.view, .int .i64 t.under, .int .u64 (t.parent : Int), .int .u64 (t.sum : Int), .int .i64 e.view, .int .i64 e.opn, .int .i64 e.under, .int .u64 (e.parent : Int), .int .i64 e.client, .int .i64 e.session, .int .i64 e.request, .int .i64 e.oper, .string e.body] rfl rfl (Row.new _ _ _) ?_ (hid rfl) (hid rfl) (hid (by simp [Value.oneCell'])); intro wk HRK HBK; have hrf0 := ((HRN0.out.below hd.below HLT0.out).alloc (.cells #[.int .i64 0, .int .i64 0, .int .i64 0, .int .i64 0, .int .u64 0, .int .u64 0, .int .i64 0, .int .i64 0, .int .i64 0, .int .u64 0, .int .i64 0, .int .i64 0, .int .i64 0, .int .i64 0, .string ⟨#[]⟩] 41)).grown HBK (by have := (HRN0.out.below hd.below HLT0.out).lt; intro e; have := Option.some.inj e; omega); have hbf := ((HBN.out.trans (hd.below.mono HLB.out)).alloc (HBN.out.trans (hd.below.mono HLB.out)).size (.cells #[.int .i64 0, .int .i64 0, .int .i64 0, .int .i64 0, .int .u64 0, .int .u64 0, .int .i64 0, .int .i64 0, .int .i64 0, .int .u64 0, .int .i64 0, .int .i64 0, .int .i64 0, .int .i64 0, .string ⟨#[]⟩] 41)).trans (below_grown HBK (HBN.out.trans (hd.below.mono HLB.out)).size (by have := (HBN.out.trans (hd.below.mono HLB.out)).size; simp; omega)); have hk0 : wk.cell? ⟨wj.heap.size, 0, none⟩ = some (.int .i64 1) := HRK.at_ 0 _ rfl)
    | ((with_reducible show wpList _ _ _ ({ dst := some 102, op := _, type := _, pos := _, after := _, guard := _ } :: _) _ _); refine wpl_load_midw rfl 24 (.tmp 101) rfl wj.heap.size 6 rfl (En.cells e).toList _ (item_entry (⟨1, t, e⟩ : It) HRK) Tryd.underlying24 rfl HZE.out ?_)
    | ((with_reducible show wpList _ _ _ ({ dst := _, op := .load 24 (.tmp 3), type := _, pos := _, after := _, guard := _ } :: _) _ _); refine wpl_load_want rfl 24 (.tmp 3) rfl w.heap.size rfl 24 #[.int .i64 e.view, .int .i64 e.opn, .int .i64 e.under, .int .u64 (e.parent : Int), .int .i64 e.client, .int .i64 e.session, .int .i64 e.request, .int .i64 e.oper, .string e.body] (0, 0) _ (Row.arr (cs := #[.int .i64 e.view, .int .i64 e.opn, .int .i64 e.under, .int .u64 (e.parent : Int), .int .i64 e.client, .int .i64 e.session, .int .i64 e.request, .int .i64 e.oper, .string e.body]) hrf0) Tryd.underlying24 rfl HZE.out ?_)
    | ((with_reducible show wpList _ _ _ ({ dst := some 104, op := _, type := _, pos := _, after := _, guard := _ } :: _) _ _); refine wpl_eqe2 rfl e e true (.tmp 102) (.tmp 103) _ rfl rfl rfl (hid (by simp)) ?_))
  go_ret
  exact ⟨rfl, hbf⟩
set_option maxHeartbeats 2000000 in
theorem voids_1L (e : En) (t : St) (P H VH VP : ByteArray) (la lb : List UInt8) (S0 S1 S2 S3 S4 S5 S6 SZ : Sp) (w : World) (hf : Fd w) (A : Option Addr) (l cap : Nat) (picks : List Int) (n : Int) (HNB : Hid (n ≤ 9223372036854775807)) (HL : Hid (l = picks.length)) (HRD : Hid (∀ W, Below w.heap.size w W → Rd W w.heap.size A (ints picks))) (HPI : Hid (∀ x ∈ picks, x ≤ 9223372036854775807)) (HPN : Hid (picks.length ≤ 9223372036854775807))
    (HAW : Hid (∀ W, Fd W → Calls Tryd.prog 10 #[] W (Yes W)))
    (HRi : Hid (∀ W, Calls Tryd.prog 27 #[.agg #[.int .i64 e.view, .int .i64 e.opn, .int .i64 e.under, .int .u64 (e.parent : Int), .int .i64 e.client, .int .i64 e.session, .int .i64 e.request, .int .i64 e.oper, .string e.body]] W (VE W (.bool true))))
    (HPr : Hid (∀ W, Fd W → Calls Tryd.prog 12 #[.string ⟨#[]⟩, .agg #[.int .i64 e.view, .int .i64 e.opn, .int .i64 e.under, .int .u64 (e.parent : Int), .int .i64 e.client, .int .i64 e.session, .int .i64 e.request, .int .i64 e.oper, .string e.body]] W fun e w' => e = .returned (.tuple #[.string P, .int .i64 0]) ∧ Below W.heap.size W w'))
    (HSt : Hid (∀ W, Fd W → Calls Tryd.prog 16 #[.agg #[.int .i64 e.view, .int .i64 e.opn, .int .i64 e.under, .int .u64 (e.parent : Int), .int .i64 e.client, .int .i64 e.session, .int .i64 e.request, .int .i64 e.oper, .string e.body]] W (VE W (.agg #[.int .i64 t.opn, .int .i64 t.view, .int .i64 t.under, .int .u64 (t.parent : Int), .int .u64 (t.sum : Int)]))))
    (HHd : Hid (∀ W, Calls Tryd.prog 14 #[.string ⟨#[]⟩, .agg #[.int .i64 t.opn, .int .i64 t.view, .int .i64 t.under, .int .u64 (t.parent : Int), .int .u64 (t.sum : Int)]] W fun e w' => e = .returned (.tuple #[.string H, .int .i64 0]) ∧ Below W.heap.size W w'))
    (HVh : Hid (∀ W, Calls Tryd.prog 18 #[.string H] W fun e w' => e = .returned (.string VH) ∧ Below W.heap.size W w'))
    (HVp : Hid (∀ W, Calls Tryd.prog 18 #[.string P] W fun e w' => e = .returned (.string VP) ∧ Below W.heap.size W w'))
    (HS0 : Hid (Sp.mk0 2 = S0))
    (HW0 : Hid (S0.write 0 (sb P) = (S1, 0)))
    (HW1 : Hid (S1.write 1 (sb H) = (S2, 0)))
    (HF0 : Hid (S2.flush = (S3, 0)))
    (HFu : Hid (S3.fuse n = (S4, 0)))
    (HX0 : Hid (S4.write 1 (sb VH) = (S5, 0)))
    (HX1 : Hid (S5.flush = (S6, 6)))
    (HON : Hid (S6.on = false))
    (HST : Hid (S6.start picks = (SZ, 0)))
    (HCZ : Hid (SZ.count ≤ 1048576))
    (HC0 : Hid (S0.count ≤ 1048576))
    (HC1 : Hid (S1.count ≤ 1048576))
    (HC2 : Hid (S2.count ≤ 1048576))
    (HC3 : Hid (S3.count ≤ 1048576))
    (HC4 : Hid (S4.count ≤ 1048576))
    (HC5 : Hid (S5.count ≤ 1048576))
    (HC6 : Hid (S6.count ≤ 1048576))
    (HR0 : Hid (SZ.read 0 = (la, 0)))
    (HR1 : Hid (SZ.read 1 = (lb, 0)))
    (HJ : Hid (∀ W, Fd W → Calls Tryd.prog 24 #[.string ⟨la.toArray⟩, .string ⟨lb.toArray⟩, .int .i64 e.opn] W (VE W (.agg #[.int .i64 0, .int .i64 0, .int .i64 0, .int .i64 0, .int .u64 0, .int .u64 0, .int .i64 0, .int .i64 0, .int .i64 0, .int .u64 0, .int .i64 0, .int .i64 0, .int .i64 0, .int .i64 0, .string ⟨#[]⟩])))) :
    Calls Tryd.prog 8 #[.agg #[.int .i64 e.view, .int .i64 e.opn, .int .i64 e.under, .int .u64 (e.parent : Int), .int .i64 e.client, .int .i64 e.session, .int .i64 e.request, .int .i64 e.oper, .string e.body], .int .i64 n, .slice A l cap] w (Yes w) := by
  have qq : True := (fun _ _ => trivial) HVp HC3
  clear qq
  have HZE := hid esize
  have HZI := hid isize
  have HFd := hid hf
  clear hf
  go_enter Tryd.func8, Tryd.ntmps8
  go_wp2_with (first
    | (go_at_call 10; refine (HAW.out _ (HFd.out.below ((Below.refl w.heap.size w).alloc (Nat.le_refl _) _) HFd.out.1)).mono ?_; rintro x w1 ⟨rfl, hbq⟩; have hre0 := (Row.new w 24 #[.int .i64 e.view, .int .i64 e.opn, .int .i64 e.under, .int .u64 (e.parent : Int), .int .i64 e.client, .int .i64 e.session, .int .i64 e.request, .int .i64 e.oper, .string e.body]).below hbq (by simp); have hbe := ((Below.refl w.heap.size w).alloc (Nat.le_refl _) (.cells #[.int .i64 e.view, .int .i64 e.opn, .int .i64 e.under, .int .u64 (e.parent : Int), .int .i64 e.client, .int .i64 e.session, .int .i64 e.request, .int .i64 e.oper, .string e.body] 24)).trans (hbq.mono (by simp)); clear hbq)
    | (go_at_call 26; refine (dk_new 2 _ (by omega) (by omega)).mono ?_; rintro x w2 ⟨p, gs, rfl, hd⟩; rw [HS0.out] at hd; unfold dptr; have HBN := hid hbe; have HLB := hid hbe.size; clear hbe; have HRN0 := hid hre0; have HLT0 := hid hre0.lt; clear hre0; have hgs : w1.heap.size ≤ gs := (by obtain ⟨vw, _, h2, _⟩ := hd; exact h2 gs (by simp [fpD])))
    | ((with_reducible show wpList _ _ _ ({ dst := _, op := .load 24 (.tmp 3), type := _, pos := _, after := _, guard := _ } :: _) _ _); refine wpl_load_want rfl 24 (.tmp 3) rfl w.heap.size rfl 24 #[.int .i64 e.view, .int .i64 e.opn, .int .i64 e.under, .int .u64 (e.parent : Int), .int .i64 e.client, .int .i64 e.session, .int .i64 e.request, .int .i64 e.oper, .string e.body] (0, 0) _ (Row.arr (cs := #[.int .i64 e.view, .int .i64 e.opn, .int .i64 e.under, .int .u64 (e.parent : Int), .int .i64 e.client, .int .i64 e.session, .int .i64 e.request, .int .i64 e.oper, .string e.body]) (HRN0.out.below hd.below HLT0.out)) Tryd.underlying24 rfl HZE.out ?_)
    | (go_at_call 27; refine (HRi.out _).mono ?_; rintro x wq ⟨rfl, hbq⟩; replace hd := hd.fr (Fr.of_below hbq); clear hbq)
    | (go_at_call 12; refine (HPr.out _ (HFd.out.below (HBN.out.trans (hd.below.mono HLB.out)) HFd.out.1)).mono ?_; rintro x wq ⟨rfl, hbq⟩; replace hd := hd.fr (Fr.of_below hbq); clear hbq)
    | (go_at_call 16; refine (HSt.out _ (HFd.out.below (HBN.out.trans (hd.below.mono HLB.out)) HFd.out.1)).mono ?_; rintro x wq ⟨rfl, hbq⟩; replace hd := hd.fr (Fr.of_below hbq); clear hbq)
    | (go_at_call 14; refine (HHd.out _).mono ?_; rintro x wq ⟨rfl, hbq⟩; replace hd := hd.fr (Fr.of_below hbq); clear hbq)
    | (go_at_call_of 18 (Value.string H); refine (HVh.out _).mono ?_; rintro x wq ⟨rfl, hbq⟩; replace hd := hd.fr (Fr.of_below hbq); clear hbq)
    | (go_at_call_of 18 (Value.string P); refine (HVp.out _).mono ?_; rintro x wq ⟨rfl, hbq⟩; replace hd := hd.fr (Fr.of_below hbq); clear hbq)
    | (go_at_call 28; (first | refine (dk_write hd HC0.out 0 P HW0.out).mono ?_ | refine (dk_write hd HC1.out 1 H HW1.out).mono ?_ | refine (dk_write hd HC4.out 1 VH HX0.out).mono ?_); rintro x wq ⟨rfl, hq⟩; replace hd := hq; clear hq)
    | (go_at_call 29; (first | refine (dk_flush hd HC2.out HF0.out).mono ?_ | refine (dk_flush hd HC5.out HX1.out).mono ?_); rintro x wq ⟨rfl, hq⟩; replace hd := hq; clear hq)
    | (go_at_call 30; refine (dk_fuse hd n HNB.out HFu.out).mono ?_; rintro x wq ⟨rfl, hq⟩; replace hd := hq; clear hq)
    | (go_at_call 31; refine (dk_on hd HON.out).mono ?_; rintro x wq ⟨rfl, rfl⟩)
    | (go_at_call 32; refine (dk_start hd HC6.out picks A l cap w.heap.size HL.out (HRD.out _ (HBN.out.trans (hd.below.mono HLB.out))) HPI.out HPN.out (fun hne g o hA e => by obtain ⟨g', o', e2, hlt, _⟩ := HRD.out _ (HBN.out.trans (hd.below.mono HLB.out)) (by intro e; exact hne (by simpa [ints] using e)); rw [hA] at e2; cases e2; have := HLB.out; omega) HST.out).mono ?_; rintro x wq ⟨rfl, hq⟩; replace hd := hq; clear hq)
    | (go_at_call_of 33 (Value.int IntKind.i64 0); refine (dk_read hd HCZ.out 0 HR0.out).mono ?_; rintro x wq ⟨rfl, hq⟩; replace hd := hq; clear hq; have he1 := (HRN0.out.below hd.below HLT0.out).at_ 1 _ rfl)
    | (go_at_call_of 33 (Value.int IntKind.i64 1); refine (dk_read hd HCZ.out 1 HR1.out).mono ?_; rintro x wq ⟨rfl, hq⟩; replace hd := hq; clear hq; have he1 := (HRN0.out.below hd.below HLT0.out).at_ 1 _ rfl)
    | (go_at_call 24; refine (HJ.out _ (HFd.out.below (HBN.out.trans (hd.below.mono HLB.out)) HFd.out.1)).mono ?_; rintro x wj ⟨rfl, hbq⟩; replace hd := hd.fr (Fr.of_below hbq); clear hbq)
    | ((with_reducible show wpList _ _ _ ({ dst := none, op := .store _ (.tmp 18) (.tmp 94), type := _, pos := _, after := _, guard := _ } :: _) _ _); refine wpl_store_st rfl (.tmp 18) (.tmp 94) rfl (n := 15) HZI.out wj.heap.size #[.int .i64 0, .int .i64 0, .int .i64 0, .int .i64 0, .int .u64 0, .int .u64 0, .int .i64 0, .int .i64 0, .int .i64 0, .int .u64 0, .int .i64 0, .int .i64 0, .int .i64 0, .int .i64 0, .string ⟨#[]⟩] #[.int .i64 0, .int .i64 0, .int .i64 0, .int .i64 0, .int .u64 0, .int .u64 0, .int .i64 0, .int .i64 0, .int .i64 0, .int .u64 0, .int .i64 0, .int .i64 0, .int .i64 0, .int .i64 0, .string ⟨#[]⟩] rfl rfl (Row.new _ _ _) ?_ (hid rfl) (hid rfl) (hid (by simp [Value.oneCell'])); intro wk HRK HBK; have hrf0 := ((HRN0.out.below hd.below HLT0.out).alloc (.cells #[.int .i64 0, .int .i64 0, .int .i64 0, .int .i64 0, .int .u64 0, .int .u64 0, .int .i64 0, .int .i64 0, .int .i64 0, .int .u64 0, .int .i64 0, .int .i64 0, .int .i64 0, .int .i64 0, .string ⟨#[]⟩] 41)).grown HBK (by have := (HRN0.out.below hd.below HLT0.out).lt; intro e; have := Option.some.inj e; omega); have hbf := ((HBN.out.trans (hd.below.mono HLB.out)).alloc (HBN.out.trans (hd.below.mono HLB.out)).size (.cells #[.int .i64 0, .int .i64 0, .int .i64 0, .int .i64 0, .int .u64 0, .int .u64 0, .int .i64 0, .int .i64 0, .int .i64 0, .int .u64 0, .int .i64 0, .int .i64 0, .int .i64 0, .int .i64 0, .string ⟨#[]⟩] 41)).trans (below_grown HBK (HBN.out.trans (hd.below.mono HLB.out)).size (by have := (HBN.out.trans (hd.below.mono HLB.out)).size; simp; omega)); have hk0 : wk.cell? ⟨wj.heap.size, 0, none⟩ = some (.int .i64 0) := HRK.at_ 0 _ rfl)
    | ((with_reducible show wpList _ _ _ ({ dst := _, op := .load 41 (.tmp 18), type := _, pos := _, after := _, guard := _ } :: _) _ _); refine wpl_load_want rfl 41 (.tmp 18) rfl wj.heap.size rfl 41 #[.int .i64 0, .int .i64 0, .int .i64 0, .int .i64 0, .int .u64 0, .int .u64 0, .int .i64 0, .int .i64 0, .int .i64 0, .int .u64 0, .int .i64 0, .int .i64 0, .int .i64 0, .int .i64 0, .string ⟨#[]⟩] (0, 0) _ (Row.arr (cs := #[.int .i64 0, .int .i64 0, .int .i64 0, .int .i64 0, .int .u64 0, .int .u64 0, .int .i64 0, .int .i64 0, .int .i64 0, .int .u64 0, .int .i64 0, .int .i64 0, .int .i64 0, .int .i64 0, .string ⟨#[]⟩]) HRK) Tryd.underlying41 rfl HZI.out ?_)
    | ((with_reducible show wpList _ _ _ ({ dst := some 108, op := _, type := _, pos := _, after := _, guard := _ } :: _) _ _); refine wpl_eqi rfl it0 it0 true (.tmp 106) (.tmp 107) _ rfl rfl rfl (hid (.inl ⟨rfl, rfl⟩)) ?_))
  go_ret
  exact ⟨rfl, hbf⟩
end Go.Proofs.YtdcoiehhnllhmaaDoor
