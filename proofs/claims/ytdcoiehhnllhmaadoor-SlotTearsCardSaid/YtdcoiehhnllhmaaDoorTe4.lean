/-
  The walk of SlotTears.
-/
import Derived.Test.YtdcoiehhnllhmaaDoorM20
namespace Go.Proofs.YtdcoiehhnllhmaaDoor
open Go.RowKit
set_option maxRecDepth 10000

set_option maxHeartbeats 2000000 in
theorem tears_v3L (o e : En) (u t : St) (P H V X Y : ByteArray) (la lb : List UInt8) (S0 S1 S2 S3 S4 S5 S6 S7 S8 SZ : Sp) (w : World) (hf : Fd w) (A : Option Addr) (l cap : Nat) (picks : List Int) (n : Int) (HNB : Hid (n ≤ 9223372036854775807)) (HL : Hid (l = picks.length)) (HRD : Hid (∀ W, Below w.heap.size w W → Rd W w.heap.size A (ints picks))) (HPI : Hid (∀ x ∈ picks, x ≤ 9223372036854775807)) (HPN : Hid (picks.length ≤ 9223372036854775807))
    (HAW : Hid (∀ W, Fd W → Calls Tryd.prog 10 #[] W (Yes W)))
    (HRo : Hid (∀ W, Calls Tryd.prog 27 #[.agg #[.int .i64 o.view, .int .i64 o.opn, .int .i64 o.under, .int .u64 (o.parent : Int), .int .i64 o.client, .int .i64 o.session, .int .i64 o.request, .int .i64 o.oper, .string o.body]] W (VE W (.bool true))))
    (HRe : Hid (∀ W, Calls Tryd.prog 27 #[.agg #[.int .i64 e.view, .int .i64 e.opn, .int .i64 e.under, .int .u64 (e.parent : Int), .int .i64 e.client, .int .i64 e.session, .int .i64 e.request, .int .i64 e.oper, .string e.body]] W (VE W (.bool true))))
    (hne : (o.opn == e.opn) = false)
    (HPo : Hid (∀ W, Fd W → Calls Tryd.prog 12 #[.string ⟨#[]⟩, .agg #[.int .i64 o.view, .int .i64 o.opn, .int .i64 o.under, .int .u64 (o.parent : Int), .int .i64 o.client, .int .i64 o.session, .int .i64 o.request, .int .i64 o.oper, .string o.body]] W fun x w' => x = .returned (.tuple #[.string P, .int .i64 0]) ∧ Below W.heap.size W w'))
    (HSo : Hid (∀ W, Fd W → Calls Tryd.prog 16 #[.agg #[.int .i64 o.view, .int .i64 o.opn, .int .i64 o.under, .int .u64 (o.parent : Int), .int .i64 o.client, .int .i64 o.session, .int .i64 o.request, .int .i64 o.oper, .string o.body]] W (VE W (.agg #[.int .i64 u.opn, .int .i64 u.view, .int .i64 u.under, .int .u64 (u.parent : Int), .int .u64 (u.sum : Int)]))))
    (HHo : Hid (∀ W, Calls Tryd.prog 14 #[.string ⟨#[]⟩, .agg #[.int .i64 u.opn, .int .i64 u.view, .int .i64 u.under, .int .u64 (u.parent : Int), .int .u64 (u.sum : Int)]] W fun x w' => x = .returned (.tuple #[.string H, .int .i64 0]) ∧ Below W.heap.size W w'))
    (HV : Hid (∀ W, Calls Tryd.prog 18 #[.string ⟨#[]⟩] W fun x w' => x = .returned (.string V) ∧ Below W.heap.size W w'))
    (HPe : Hid (∀ W, Fd W → Calls Tryd.prog 12 #[.string V, .agg #[.int .i64 e.view, .int .i64 e.opn, .int .i64 e.under, .int .u64 (e.parent : Int), .int .i64 e.client, .int .i64 e.session, .int .i64 e.request, .int .i64 e.oper, .string e.body]] W fun x w' => x = .returned (.tuple #[.string X, .int .i64 0]) ∧ Below W.heap.size W w'))
    (HSt : Hid (∀ W, Fd W → Calls Tryd.prog 16 #[.agg #[.int .i64 e.view, .int .i64 e.opn, .int .i64 e.under, .int .u64 (e.parent : Int), .int .i64 e.client, .int .i64 e.session, .int .i64 e.request, .int .i64 e.oper, .string e.body]] W (VE W (.agg #[.int .i64 t.opn, .int .i64 t.view, .int .i64 t.under, .int .u64 (t.parent : Int), .int .u64 (t.sum : Int)]))))
    (HHe : Hid (∀ W, Calls Tryd.prog 14 #[.string V, .agg #[.int .i64 t.opn, .int .i64 t.view, .int .i64 t.under, .int .u64 (t.parent : Int), .int .u64 (t.sum : Int)]] W fun x w' => x = .returned (.tuple #[.string Y, .int .i64 0]) ∧ Below W.heap.size W w'))
    (HS0 : Hid (Sp.mk0 2 = S0))
    (HW0 : Hid (S0.write 0 (sb V) = (S1, 0)))
    (HW1 : Hid (S1.write 1 (sb V) = (S2, 0)))
    (HF0 : Hid (S2.flush = (S3, 0)))
    (HFu : Hid (S3.fuse n = (S4, 0)))
    (HX0 : Hid (S4.write 0 (sb X) = (S5, 0)))
    (HX1 : Hid (S5.flush = (S6, 0)))
    (HX2 : Hid (S6.write 1 (sb Y) = (S7, 0)))
    (HX3 : Hid (S7.flush = (S8, 6)))
    (HON : Hid (S8.on = false))
    (HST : Hid (S8.start picks = (SZ, 0)))
    (HCZ : Hid (SZ.count ≤ 1048576))
    (HC0 : Hid (S0.count ≤ 1048576))
    (HC1 : Hid (S1.count ≤ 1048576))
    (HC2 : Hid (S2.count ≤ 1048576))
    (HC3 : Hid (S3.count ≤ 1048576))
    (HC4 : Hid (S4.count ≤ 1048576))
    (HC5 : Hid (S5.count ≤ 1048576))
    (HC6 : Hid (S6.count ≤ 1048576))
    (HC7 : Hid (S7.count ≤ 1048576))
    (HC8 : Hid (S8.count ≤ 1048576))
    (HR0 : Hid (SZ.read 0 = (la, 0)))
    (HR1 : Hid (SZ.read 1 = (lb, 0)))
    (HJ : Hid (∀ W, Fd W → Calls Tryd.prog 24 #[.string ⟨la.toArray⟩, .string ⟨lb.toArray⟩, .int .i64 e.opn] W (VE W (.agg #[.int .i64 0, .int .i64 0, .int .i64 0, .int .i64 0, .int .u64 0, .int .u64 0, .int .i64 0, .int .i64 0, .int .i64 0, .int .u64 0, .int .i64 0, .int .i64 0, .int .i64 0, .int .i64 0, .string ⟨#[]⟩])))) :
    Calls Tryd.prog 6 #[.agg #[.int .i64 o.view, .int .i64 o.opn, .int .i64 o.under, .int .u64 (o.parent : Int), .int .i64 o.client, .int .i64 o.session, .int .i64 o.request, .int .i64 o.oper, .string o.body], .bool true, .agg #[.int .i64 e.view, .int .i64 e.opn, .int .i64 e.under, .int .u64 (e.parent : Int), .int .i64 e.client, .int .i64 e.session, .int .i64 e.request, .int .i64 e.oper, .string e.body], .int .i64 n, .slice A l cap] w (Yes w) := by
  have qq : True := (fun _ => trivial) HC3
  clear qq
  have HZE := hid esize
  have HZI := hid isize
  have HFd := hid hf
  clear hf
  go_enter Tryd.func6, Tryd.ntmps6
  go_wp2_with (first
    | (go_at_call 10; refine (HAW.out _ (HFd.out.below (((Below.refl w.heap.size w).alloc (Nat.le_refl _) _).alloc (by simp) _) HFd.out.1)).mono ?_; rintro x w1 ⟨rfl, hbq⟩; have hre0 := ((Row.new w 24 #[.int .i64 o.view, .int .i64 o.opn, .int .i64 o.under, .int .u64 (o.parent : Int), .int .i64 o.client, .int .i64 o.session, .int .i64 o.request, .int .i64 o.oper, .string o.body]).alloc (.cells #[.int .i64 e.view, .int .i64 e.opn, .int .i64 e.under, .int .u64 (e.parent : Int), .int .i64 e.client, .int .i64 e.session, .int .i64 e.request, .int .i64 e.oper, .string e.body] 24)).below hbq (by simp; omega); have hre1 : Row w1 (w.heap.size + 1) 24 (Array.toList #[.int .i64 e.view, .int .i64 e.opn, .int .i64 e.under, .int .u64 (e.parent : Int), .int .i64 e.client, .int .i64 e.session, .int .i64 e.request, .int .i64 e.oper, .string e.body]) := Row.below (B := w.heap.size + 1 + 1) (alloc2_new _ _ _) (hbq.mono (by simp)) (by omega); have hbe := (((Below.refl w.heap.size w).alloc (Nat.le_refl _) (.cells #[.int .i64 o.view, .int .i64 o.opn, .int .i64 o.under, .int .u64 (o.parent : Int), .int .i64 o.client, .int .i64 o.session, .int .i64 o.request, .int .i64 o.oper, .string o.body] 24)).alloc (by simp) (.cells #[.int .i64 e.view, .int .i64 e.opn, .int .i64 e.under, .int .u64 (e.parent : Int), .int .i64 e.client, .int .i64 e.session, .int .i64 e.request, .int .i64 e.oper, .string e.body] 24)).trans (hbq.mono (by simp; omega)); clear hbq)
    | (go_at_call 26; refine (dk_new 2 _ (by omega) (by omega)).mono ?_; rintro x w2 ⟨p, gs, rfl, hd⟩; rw [HS0.out] at hd; unfold dptr; have HBN := hid hbe; have HLB := hid hbe.size; clear hbe; have HRN0 := hid hre0; have HLT0 := hid hre0.lt; clear hre0; have HRN1 := hid hre1; have HLT1 := hid hre1.lt; clear hre1; have hgs : w1.heap.size ≤ gs := (by obtain ⟨vw, _, h2, _⟩ := hd; exact h2 gs (by simp [fpD])))
    | ((with_reducible show wpList _ _ _ ({ dst := _, op := .load 24 (.tmp 5), type := _, pos := _, after := _, guard := _ } :: _) _ _); refine wpl_load_want rfl 24 (.tmp 5) rfl w.heap.size rfl 24 #[.int .i64 o.view, .int .i64 o.opn, .int .i64 o.under, .int .u64 (o.parent : Int), .int .i64 o.client, .int .i64 o.session, .int .i64 o.request, .int .i64 o.oper, .string o.body] (0, 0) _ (Row.arr (cs := #[.int .i64 o.view, .int .i64 o.opn, .int .i64 o.under, .int .u64 (o.parent : Int), .int .i64 o.client, .int .i64 o.session, .int .i64 o.request, .int .i64 o.oper, .string o.body]) (HRN0.out.below hd.below HLT0.out)) Tryd.underlying24 rfl HZE.out ?_)
    | ((with_reducible show wpList _ _ _ ({ dst := _, op := .load 24 (.tmp 7), type := _, pos := _, after := _, guard := _ } :: _) _ _); refine wpl_load_want rfl 24 (.tmp 7) rfl (w.heap.size + 1) rfl 24 #[.int .i64 e.view, .int .i64 e.opn, .int .i64 e.under, .int .u64 (e.parent : Int), .int .i64 e.client, .int .i64 e.session, .int .i64 e.request, .int .i64 e.oper, .string e.body] (0, 0) _ (Row.arr (cs := #[.int .i64 e.view, .int .i64 e.opn, .int .i64 e.under, .int .u64 (e.parent : Int), .int .i64 e.client, .int .i64 e.session, .int .i64 e.request, .int .i64 e.oper, .string e.body]) (HRN1.out.below hd.below HLT1.out)) Tryd.underlying24 rfl HZE.out ?_)
    | (go_at_call_of 27 (Value.agg #[.int .i64 o.view, .int .i64 o.opn, .int .i64 o.under, .int .u64 (o.parent : Int), .int .i64 o.client, .int .i64 o.session, .int .i64 o.request, .int .i64 o.oper, .string o.body]); refine (HRo.out _).mono ?_; rintro x wq ⟨rfl, hbq⟩; replace hd := hd.fr (Fr.of_below hbq); clear hbq)
    | (go_at_call_of 27 (Value.agg #[.int .i64 e.view, .int .i64 e.opn, .int .i64 e.under, .int .u64 (e.parent : Int), .int .i64 e.client, .int .i64 e.session, .int .i64 e.request, .int .i64 e.oper, .string e.body]); refine (HRe.out _).mono ?_; rintro x wq ⟨rfl, hbq⟩; replace hd := hd.fr (Fr.of_below hbq); clear hbq; have ho1 := (HRN0.out.below hd.below HLT0.out).at_ 1 _ rfl; have he1 := (HRN1.out.below hd.below HLT1.out).at_ 1 _ rfl)
    | (go_at_call_of 12 (Value.agg #[.int .i64 o.view, .int .i64 o.opn, .int .i64 o.under, .int .u64 (o.parent : Int), .int .i64 o.client, .int .i64 o.session, .int .i64 o.request, .int .i64 o.oper, .string o.body]); refine (HPo.out _ (HFd.out.below (HBN.out.trans (hd.below.mono HLB.out)) HFd.out.1)).mono ?_; rintro x wq ⟨rfl, hbq⟩; replace hd := hd.fr (Fr.of_below hbq); clear hbq)
    | (go_at_call_of 12 (Value.agg #[.int .i64 e.view, .int .i64 e.opn, .int .i64 e.under, .int .u64 (e.parent : Int), .int .i64 e.client, .int .i64 e.session, .int .i64 e.request, .int .i64 e.oper, .string e.body]); refine (HPe.out _ (HFd.out.below (HBN.out.trans (hd.below.mono HLB.out)) HFd.out.1)).mono ?_; rintro x wq ⟨rfl, hbq⟩; replace hd := hd.fr (Fr.of_below hbq); clear hbq)
    | (go_at_call_of 16 (Value.agg #[.int .i64 o.view, .int .i64 o.opn, .int .i64 o.under, .int .u64 (o.parent : Int), .int .i64 o.client, .int .i64 o.session, .int .i64 o.request, .int .i64 o.oper, .string o.body]); refine (HSo.out _ (HFd.out.below (HBN.out.trans (hd.below.mono HLB.out)) HFd.out.1)).mono ?_; rintro x wq ⟨rfl, hbq⟩; replace hd := hd.fr (Fr.of_below hbq); clear hbq)
    | (go_at_call_of 16 (Value.agg #[.int .i64 e.view, .int .i64 e.opn, .int .i64 e.under, .int .u64 (e.parent : Int), .int .i64 e.client, .int .i64 e.session, .int .i64 e.request, .int .i64 e.oper, .string e.body]); refine (HSt.out _ (HFd.out.below (HBN.out.trans (hd.below.mono HLB.out)) HFd.out.1)).mono ?_; rintro x wq ⟨rfl, hbq⟩; replace hd := hd.fr (Fr.of_below hbq); clear hbq)
    | (go_at_call_of 14 (Value.agg #[.int .i64 u.opn, .int .i64 u.view, .int .i64 u.under, .int .u64 (u.parent : Int), .int .u64 (u.sum : Int)]); refine (HHo.out _).mono ?_; rintro x wq ⟨rfl, hbq⟩; replace hd := hd.fr (Fr.of_below hbq); clear hbq)
    | (go_at_call_of 14 (Value.agg #[.int .i64 t.opn, .int .i64 t.view, .int .i64 t.under, .int .u64 (t.parent : Int), .int .u64 (t.sum : Int)]); refine (HHe.out _).mono ?_; rintro x wq ⟨rfl, hbq⟩; replace hd := hd.fr (Fr.of_below hbq); clear hbq)
    | (go_at_call 18; refine (HV.out _).mono ?_; rintro x wq ⟨rfl, hbq⟩; replace hd := hd.fr (Fr.of_below hbq); clear hbq)
    | (go_at_call 28; (first | refine (dk_write hd HC0.out 0 V HW0.out).mono ?_ | refine (dk_write hd HC1.out 1 V HW1.out).mono ?_ | refine (dk_write hd HC4.out 0 X HX0.out).mono ?_ | refine (dk_write hd HC6.out 1 Y HX2.out).mono ?_); rintro x wq ⟨rfl, hq⟩; replace hd := hq; clear hq)
    | (go_at_call 29; (first | refine (dk_flush hd HC2.out HF0.out).mono ?_ | refine (dk_flush hd HC5.out HX1.out).mono ?_ | refine (dk_flush hd HC7.out HX3.out).mono ?_); rintro x wq ⟨rfl, hq⟩; replace hd := hq; clear hq)
    | (go_at_call 30; refine (dk_fuse hd n HNB.out HFu.out).mono ?_; rintro x wq ⟨rfl, hq⟩; replace hd := hq; clear hq)
    | (go_at_call 31; refine (dk_on hd HON.out).mono ?_; rintro x wq ⟨rfl, rfl⟩)
    | (go_at_call 32; refine (dk_start hd HC8.out picks A l cap w.heap.size HL.out (HRD.out _ (HBN.out.trans (hd.below.mono HLB.out))) HPI.out HPN.out (fun hne g o hA e => by obtain ⟨g', o', e2, hlt, _⟩ := HRD.out _ (HBN.out.trans (hd.below.mono HLB.out)) (by intro e; exact hne (by simpa [ints] using e)); rw [hA] at e2; cases e2; have := HLB.out; omega) HST.out).mono ?_; rintro x wq ⟨rfl, hq⟩; replace hd := hq; clear hq)
    | (go_at_call_of 33 (Value.int IntKind.i64 0); refine (dk_read hd HCZ.out 0 HR0.out).mono ?_; rintro x wq ⟨rfl, hq⟩; replace hd := hq; clear hq; have he1 := (HRN1.out.below hd.below HLT1.out).at_ 1 _ rfl)
    | (go_at_call_of 33 (Value.int IntKind.i64 1); refine (dk_read hd HCZ.out 1 HR1.out).mono ?_; rintro x wq ⟨rfl, hq⟩; replace hd := hq; clear hq; have he1 := (HRN1.out.below hd.below HLT1.out).at_ 1 _ rfl)
    | (go_at_call 24; refine (HJ.out _ (HFd.out.below (HBN.out.trans (hd.below.mono HLB.out)) HFd.out.1)).mono ?_; rintro x wj ⟨rfl, hbq⟩; replace hd := hd.fr (Fr.of_below hbq); clear hbq)
    | ((with_reducible show wpList _ _ _ ({ dst := none, op := .store _ (.tmp 26) (.tmp 128), type := _, pos := _, after := _, guard := _ } :: _) _ _); refine wpl_store_st rfl (.tmp 26) (.tmp 128) rfl (n := 15) HZI.out wj.heap.size #[.int .i64 0, .int .i64 0, .int .i64 0, .int .i64 0, .int .u64 0, .int .u64 0, .int .i64 0, .int .i64 0, .int .i64 0, .int .u64 0, .int .i64 0, .int .i64 0, .int .i64 0, .int .i64 0, .string ⟨#[]⟩] #[.int .i64 0, .int .i64 0, .int .i64 0, .int .i64 0, .int .u64 0, .int .u64 0, .int .i64 0, .int .i64 0, .int .i64 0, .int .u64 0, .int .i64 0, .int .i64 0, .int .i64 0, .int .i64 0, .string ⟨#[]⟩] rfl rfl (Row.new _ _ _) ?_ (hid rfl) (hid rfl) (hid (by simp [Value.oneCell'])); intro wk HRK HBK; have hrf0 := ((HRN0.out.below hd.below HLT0.out).alloc (.cells #[.int .i64 0, .int .i64 0, .int .i64 0, .int .i64 0, .int .u64 0, .int .u64 0, .int .i64 0, .int .i64 0, .int .i64 0, .int .u64 0, .int .i64 0, .int .i64 0, .int .i64 0, .int .i64 0, .string ⟨#[]⟩] 41)).grown HBK (by have := (HRN0.out.below hd.below HLT0.out).lt; intro e; have := Option.some.inj e; omega); have hrf1 := ((HRN1.out.below hd.below HLT1.out).alloc (.cells #[.int .i64 0, .int .i64 0, .int .i64 0, .int .i64 0, .int .u64 0, .int .u64 0, .int .i64 0, .int .i64 0, .int .i64 0, .int .u64 0, .int .i64 0, .int .i64 0, .int .i64 0, .int .i64 0, .string ⟨#[]⟩] 41)).grown HBK (by have := (HRN1.out.below hd.below HLT1.out).lt; intro e; have := Option.some.inj e; omega); have hbf := ((HBN.out.trans (hd.below.mono HLB.out)).alloc (HBN.out.trans (hd.below.mono HLB.out)).size (.cells #[.int .i64 0, .int .i64 0, .int .i64 0, .int .i64 0, .int .u64 0, .int .u64 0, .int .i64 0, .int .i64 0, .int .i64 0, .int .u64 0, .int .i64 0, .int .i64 0, .int .i64 0, .int .i64 0, .string ⟨#[]⟩] 41)).trans (below_grown HBK (HBN.out.trans (hd.below.mono HLB.out)).size (by have := (HBN.out.trans (hd.below.mono HLB.out)).size; simp; omega)); have hk0 : wk.cell? ⟨wj.heap.size, 0, none⟩ = some (.int .i64 0) := HRK.at_ 0 _ rfl)
    | ((with_reducible show wpList _ _ _ ({ dst := _, op := .load 41 (.tmp 26), type := _, pos := _, after := _, guard := _ } :: _) _ _); refine wpl_load_want rfl 41 (.tmp 26) rfl wj.heap.size rfl 41 #[.int .i64 0, .int .i64 0, .int .i64 0, .int .i64 0, .int .u64 0, .int .u64 0, .int .i64 0, .int .i64 0, .int .i64 0, .int .u64 0, .int .i64 0, .int .i64 0, .int .i64 0, .int .i64 0, .string ⟨#[]⟩] (0, 0) _ (Row.arr (cs := #[.int .i64 0, .int .i64 0, .int .i64 0, .int .i64 0, .int .u64 0, .int .u64 0, .int .i64 0, .int .i64 0, .int .i64 0, .int .u64 0, .int .i64 0, .int .i64 0, .int .i64 0, .int .i64 0, .string ⟨#[]⟩]) HRK) Tryd.underlying41 rfl HZI.out ?_)
    | ((with_reducible show wpList _ _ _ ({ dst := some 143, op := _, type := _, pos := _, after := _, guard := _ } :: _) _ _); refine wpl_eqi rfl it0 it0 true (.tmp 141) (.tmp 142) _ rfl rfl rfl (hid (.inl ⟨rfl, rfl⟩)) ?_))
  go_ret
  exact ⟨rfl, hbf⟩
set_option maxHeartbeats 2000000 in
theorem tears_v3H (o e : En) (u t : St) (P H V X Y : ByteArray) (la lb : List UInt8) (S0 S1 S2 S3 S4 S5 S6 S7 S8 SZ : Sp) (w : World) (hf : Fd w) (A : Option Addr) (l cap : Nat) (picks : List Int) (n : Int) (HNB : Hid (n ≤ 9223372036854775807)) (HL : Hid (l = picks.length)) (HRD : Hid (∀ W, Below w.heap.size w W → Rd W w.heap.size A (ints picks))) (HPI : Hid (∀ x ∈ picks, x ≤ 9223372036854775807)) (HPN : Hid (picks.length ≤ 9223372036854775807))
    (HAW : Hid (∀ W, Fd W → Calls Tryd.prog 10 #[] W (Yes W)))
    (HRo : Hid (∀ W, Calls Tryd.prog 27 #[.agg #[.int .i64 o.view, .int .i64 o.opn, .int .i64 o.under, .int .u64 (o.parent : Int), .int .i64 o.client, .int .i64 o.session, .int .i64 o.request, .int .i64 o.oper, .string o.body]] W (VE W (.bool true))))
    (HRe : Hid (∀ W, Calls Tryd.prog 27 #[.agg #[.int .i64 e.view, .int .i64 e.opn, .int .i64 e.under, .int .u64 (e.parent : Int), .int .i64 e.client, .int .i64 e.session, .int .i64 e.request, .int .i64 e.oper, .string e.body]] W (VE W (.bool true))))
    (hne : (o.opn == e.opn) = false)
    (HPo : Hid (∀ W, Fd W → Calls Tryd.prog 12 #[.string ⟨#[]⟩, .agg #[.int .i64 o.view, .int .i64 o.opn, .int .i64 o.under, .int .u64 (o.parent : Int), .int .i64 o.client, .int .i64 o.session, .int .i64 o.request, .int .i64 o.oper, .string o.body]] W fun x w' => x = .returned (.tuple #[.string P, .int .i64 0]) ∧ Below W.heap.size W w'))
    (HSo : Hid (∀ W, Fd W → Calls Tryd.prog 16 #[.agg #[.int .i64 o.view, .int .i64 o.opn, .int .i64 o.under, .int .u64 (o.parent : Int), .int .i64 o.client, .int .i64 o.session, .int .i64 o.request, .int .i64 o.oper, .string o.body]] W (VE W (.agg #[.int .i64 u.opn, .int .i64 u.view, .int .i64 u.under, .int .u64 (u.parent : Int), .int .u64 (u.sum : Int)]))))
    (HHo : Hid (∀ W, Calls Tryd.prog 14 #[.string ⟨#[]⟩, .agg #[.int .i64 u.opn, .int .i64 u.view, .int .i64 u.under, .int .u64 (u.parent : Int), .int .u64 (u.sum : Int)]] W fun x w' => x = .returned (.tuple #[.string H, .int .i64 0]) ∧ Below W.heap.size W w'))
    (HV : Hid (∀ W, Calls Tryd.prog 18 #[.string ⟨#[]⟩] W fun x w' => x = .returned (.string V) ∧ Below W.heap.size W w'))
    (HPe : Hid (∀ W, Fd W → Calls Tryd.prog 12 #[.string V, .agg #[.int .i64 e.view, .int .i64 e.opn, .int .i64 e.under, .int .u64 (e.parent : Int), .int .i64 e.client, .int .i64 e.session, .int .i64 e.request, .int .i64 e.oper, .string e.body]] W fun x w' => x = .returned (.tuple #[.string X, .int .i64 0]) ∧ Below W.heap.size W w'))
    (HSt : Hid (∀ W, Fd W → Calls Tryd.prog 16 #[.agg #[.int .i64 e.view, .int .i64 e.opn, .int .i64 e.under, .int .u64 (e.parent : Int), .int .i64 e.client, .int .i64 e.session, .int .i64 e.request, .int .i64 e.oper, .string e.body]] W (VE W (.agg #[.int .i64 t.opn, .int .i64 t.view, .int .i64 t.under, .int .u64 (t.parent : Int), .int .u64 (t.sum : Int)]))))
    (HHe : Hid (∀ W, Calls Tryd.prog 14 #[.string V, .agg #[.int .i64 t.opn, .int .i64 t.view, .int .i64 t.under, .int .u64 (t.parent : Int), .int .u64 (t.sum : Int)]] W fun x w' => x = .returned (.tuple #[.string Y, .int .i64 0]) ∧ Below W.heap.size W w'))
    (HS0 : Hid (Sp.mk0 2 = S0))
    (HW0 : Hid (S0.write 0 (sb V) = (S1, 0)))
    (HW1 : Hid (S1.write 1 (sb V) = (S2, 0)))
    (HF0 : Hid (S2.flush = (S3, 0)))
    (HFu : Hid (S3.fuse n = (S4, 0)))
    (HX0 : Hid (S4.write 0 (sb X) = (S5, 0)))
    (HX1 : Hid (S5.flush = (S6, 0)))
    (HX2 : Hid (S6.write 1 (sb Y) = (S7, 0)))
    (HX3 : Hid (S7.flush = (S8, 6)))
    (HON : Hid (S8.on = false))
    (HST : Hid (S8.start picks = (SZ, 0)))
    (HCZ : Hid (SZ.count ≤ 1048576))
    (HC0 : Hid (S0.count ≤ 1048576))
    (HC1 : Hid (S1.count ≤ 1048576))
    (HC2 : Hid (S2.count ≤ 1048576))
    (HC3 : Hid (S3.count ≤ 1048576))
    (HC4 : Hid (S4.count ≤ 1048576))
    (HC5 : Hid (S5.count ≤ 1048576))
    (HC6 : Hid (S6.count ≤ 1048576))
    (HC7 : Hid (S7.count ≤ 1048576))
    (HC8 : Hid (S8.count ≤ 1048576))
    (HR0 : Hid (SZ.read 0 = (la, 0)))
    (HR1 : Hid (SZ.read 1 = (lb, 0)))
    (HJ : Hid (∀ W, Fd W → Calls Tryd.prog 24 #[.string ⟨la.toArray⟩, .string ⟨lb.toArray⟩, .int .i64 e.opn] W (VE W (.agg #[.int .i64 1, .int .i64 t.opn, .int .i64 t.view, .int .i64 t.under, .int .u64 (t.parent : Int), .int .u64 (t.sum : Int), .int .i64 e.view, .int .i64 e.opn, .int .i64 e.under, .int .u64 (e.parent : Int), .int .i64 e.client, .int .i64 e.session, .int .i64 e.request, .int .i64 e.oper, .string e.body])))) :
    Calls Tryd.prog 6 #[.agg #[.int .i64 o.view, .int .i64 o.opn, .int .i64 o.under, .int .u64 (o.parent : Int), .int .i64 o.client, .int .i64 o.session, .int .i64 o.request, .int .i64 o.oper, .string o.body], .bool true, .agg #[.int .i64 e.view, .int .i64 e.opn, .int .i64 e.under, .int .u64 (e.parent : Int), .int .i64 e.client, .int .i64 e.session, .int .i64 e.request, .int .i64 e.oper, .string e.body], .int .i64 n, .slice A l cap] w (Yes w) := by
  have qq : True := (fun _ => trivial) HC3
  clear qq
  have HZE := hid esize
  have HZI := hid isize
  have HFd := hid hf
  clear hf
  go_enter Tryd.func6, Tryd.ntmps6
  go_wp2_with (first
    | (go_at_call 10; refine (HAW.out _ (HFd.out.below (((Below.refl w.heap.size w).alloc (Nat.le_refl _) _).alloc (by simp) _) HFd.out.1)).mono ?_; rintro x w1 ⟨rfl, hbq⟩; have hre0 := ((Row.new w 24 #[.int .i64 o.view, .int .i64 o.opn, .int .i64 o.under, .int .u64 (o.parent : Int), .int .i64 o.client, .int .i64 o.session, .int .i64 o.request, .int .i64 o.oper, .string o.body]).alloc (.cells #[.int .i64 e.view, .int .i64 e.opn, .int .i64 e.under, .int .u64 (e.parent : Int), .int .i64 e.client, .int .i64 e.session, .int .i64 e.request, .int .i64 e.oper, .string e.body] 24)).below hbq (by simp; omega); have hre1 : Row w1 (w.heap.size + 1) 24 (Array.toList #[.int .i64 e.view, .int .i64 e.opn, .int .i64 e.under, .int .u64 (e.parent : Int), .int .i64 e.client, .int .i64 e.session, .int .i64 e.request, .int .i64 e.oper, .string e.body]) := Row.below (B := w.heap.size + 1 + 1) (alloc2_new _ _ _) (hbq.mono (by simp)) (by omega); have hbe := (((Below.refl w.heap.size w).alloc (Nat.le_refl _) (.cells #[.int .i64 o.view, .int .i64 o.opn, .int .i64 o.under, .int .u64 (o.parent : Int), .int .i64 o.client, .int .i64 o.session, .int .i64 o.request, .int .i64 o.oper, .string o.body] 24)).alloc (by simp) (.cells #[.int .i64 e.view, .int .i64 e.opn, .int .i64 e.under, .int .u64 (e.parent : Int), .int .i64 e.client, .int .i64 e.session, .int .i64 e.request, .int .i64 e.oper, .string e.body] 24)).trans (hbq.mono (by simp; omega)); clear hbq)
    | (go_at_call 26; refine (dk_new 2 _ (by omega) (by omega)).mono ?_; rintro x w2 ⟨p, gs, rfl, hd⟩; rw [HS0.out] at hd; unfold dptr; have HBN := hid hbe; have HLB := hid hbe.size; clear hbe; have HRN0 := hid hre0; have HLT0 := hid hre0.lt; clear hre0; have HRN1 := hid hre1; have HLT1 := hid hre1.lt; clear hre1; have hgs : w1.heap.size ≤ gs := (by obtain ⟨vw, _, h2, _⟩ := hd; exact h2 gs (by simp [fpD])))
    | ((with_reducible show wpList _ _ _ ({ dst := _, op := .load 24 (.tmp 5), type := _, pos := _, after := _, guard := _ } :: _) _ _); refine wpl_load_want rfl 24 (.tmp 5) rfl w.heap.size rfl 24 #[.int .i64 o.view, .int .i64 o.opn, .int .i64 o.under, .int .u64 (o.parent : Int), .int .i64 o.client, .int .i64 o.session, .int .i64 o.request, .int .i64 o.oper, .string o.body] (0, 0) _ (Row.arr (cs := #[.int .i64 o.view, .int .i64 o.opn, .int .i64 o.under, .int .u64 (o.parent : Int), .int .i64 o.client, .int .i64 o.session, .int .i64 o.request, .int .i64 o.oper, .string o.body]) (HRN0.out.below hd.below HLT0.out)) Tryd.underlying24 rfl HZE.out ?_)
    | ((with_reducible show wpList _ _ _ ({ dst := _, op := .load 24 (.tmp 7), type := _, pos := _, after := _, guard := _ } :: _) _ _); refine wpl_load_want rfl 24 (.tmp 7) rfl (w.heap.size + 1) rfl 24 #[.int .i64 e.view, .int .i64 e.opn, .int .i64 e.under, .int .u64 (e.parent : Int), .int .i64 e.client, .int .i64 e.session, .int .i64 e.request, .int .i64 e.oper, .string e.body] (0, 0) _ (Row.arr (cs := #[.int .i64 e.view, .int .i64 e.opn, .int .i64 e.under, .int .u64 (e.parent : Int), .int .i64 e.client, .int .i64 e.session, .int .i64 e.request, .int .i64 e.oper, .string e.body]) (HRN1.out.below hd.below HLT1.out)) Tryd.underlying24 rfl HZE.out ?_)
    | (go_at_call_of 27 (Value.agg #[.int .i64 o.view, .int .i64 o.opn, .int .i64 o.under, .int .u64 (o.parent : Int), .int .i64 o.client, .int .i64 o.session, .int .i64 o.request, .int .i64 o.oper, .string o.body]); refine (HRo.out _).mono ?_; rintro x wq ⟨rfl, hbq⟩; replace hd := hd.fr (Fr.of_below hbq); clear hbq)
    | (go_at_call_of 27 (Value.agg #[.int .i64 e.view, .int .i64 e.opn, .int .i64 e.under, .int .u64 (e.parent : Int), .int .i64 e.client, .int .i64 e.session, .int .i64 e.request, .int .i64 e.oper, .string e.body]); refine (HRe.out _).mono ?_; rintro x wq ⟨rfl, hbq⟩; replace hd := hd.fr (Fr.of_below hbq); clear hbq; have ho1 := (HRN0.out.below hd.below HLT0.out).at_ 1 _ rfl; have he1 := (HRN1.out.below hd.below HLT1.out).at_ 1 _ rfl)
    | (go_at_call_of 12 (Value.agg #[.int .i64 o.view, .int .i64 o.opn, .int .i64 o.under, .int .u64 (o.parent : Int), .int .i64 o.client, .int .i64 o.session, .int .i64 o.request, .int .i64 o.oper, .string o.body]); refine (HPo.out _ (HFd.out.below (HBN.out.trans (hd.below.mono HLB.out)) HFd.out.1)).mono ?_; rintro x wq ⟨rfl, hbq⟩; replace hd := hd.fr (Fr.of_below hbq); clear hbq)
    | (go_at_call_of 12 (Value.agg #[.int .i64 e.view, .int .i64 e.opn, .int .i64 e.under, .int .u64 (e.parent : Int), .int .i64 e.client, .int .i64 e.session, .int .i64 e.request, .int .i64 e.oper, .string e.body]); refine (HPe.out _ (HFd.out.below (HBN.out.trans (hd.below.mono HLB.out)) HFd.out.1)).mono ?_; rintro x wq ⟨rfl, hbq⟩; replace hd := hd.fr (Fr.of_below hbq); clear hbq)
    | (go_at_call_of 16 (Value.agg #[.int .i64 o.view, .int .i64 o.opn, .int .i64 o.under, .int .u64 (o.parent : Int), .int .i64 o.client, .int .i64 o.session, .int .i64 o.request, .int .i64 o.oper, .string o.body]); refine (HSo.out _ (HFd.out.below (HBN.out.trans (hd.below.mono HLB.out)) HFd.out.1)).mono ?_; rintro x wq ⟨rfl, hbq⟩; replace hd := hd.fr (Fr.of_below hbq); clear hbq)
    | (go_at_call_of 16 (Value.agg #[.int .i64 e.view, .int .i64 e.opn, .int .i64 e.under, .int .u64 (e.parent : Int), .int .i64 e.client, .int .i64 e.session, .int .i64 e.request, .int .i64 e.oper, .string e.body]); refine (HSt.out _ (HFd.out.below (HBN.out.trans (hd.below.mono HLB.out)) HFd.out.1)).mono ?_; rintro x wq ⟨rfl, hbq⟩; replace hd := hd.fr (Fr.of_below hbq); clear hbq)
    | (go_at_call_of 14 (Value.agg #[.int .i64 u.opn, .int .i64 u.view, .int .i64 u.under, .int .u64 (u.parent : Int), .int .u64 (u.sum : Int)]); refine (HHo.out _).mono ?_; rintro x wq ⟨rfl, hbq⟩; replace hd := hd.fr (Fr.of_below hbq); clear hbq)
    | (go_at_call_of 14 (Value.agg #[.int .i64 t.opn, .int .i64 t.view, .int .i64 t.under, .int .u64 (t.parent : Int), .int .u64 (t.sum : Int)]); refine (HHe.out _).mono ?_; rintro x wq ⟨rfl, hbq⟩; replace hd := hd.fr (Fr.of_below hbq); clear hbq)
    | (go_at_call 18; refine (HV.out _).mono ?_; rintro x wq ⟨rfl, hbq⟩; replace hd := hd.fr (Fr.of_below hbq); clear hbq)
    | (go_at_call 28; (first | refine (dk_write hd HC0.out 0 V HW0.out).mono ?_ | refine (dk_write hd HC1.out 1 V HW1.out).mono ?_ | refine (dk_write hd HC4.out 0 X HX0.out).mono ?_ | refine (dk_write hd HC6.out 1 Y HX2.out).mono ?_); rintro x wq ⟨rfl, hq⟩; replace hd := hq; clear hq)
    | (go_at_call 29; (first | refine (dk_flush hd HC2.out HF0.out).mono ?_ | refine (dk_flush hd HC5.out HX1.out).mono ?_ | refine (dk_flush hd HC7.out HX3.out).mono ?_); rintro x wq ⟨rfl, hq⟩; replace hd := hq; clear hq)
    | (go_at_call 30; refine (dk_fuse hd n HNB.out HFu.out).mono ?_; rintro x wq ⟨rfl, hq⟩; replace hd := hq; clear hq)
    | (go_at_call 31; refine (dk_on hd HON.out).mono ?_; rintro x wq ⟨rfl, rfl⟩)
    | (go_at_call 32; refine (dk_start hd HC8.out picks A l cap w.heap.size HL.out (HRD.out _ (HBN.out.trans (hd.below.mono HLB.out))) HPI.out HPN.out (fun hne g o hA e => by obtain ⟨g', o', e2, hlt, _⟩ := HRD.out _ (HBN.out.trans (hd.below.mono HLB.out)) (by intro e; exact hne (by simpa [ints] using e)); rw [hA] at e2; cases e2; have := HLB.out; omega) HST.out).mono ?_; rintro x wq ⟨rfl, hq⟩; replace hd := hq; clear hq)
    | (go_at_call_of 33 (Value.int IntKind.i64 0); refine (dk_read hd HCZ.out 0 HR0.out).mono ?_; rintro x wq ⟨rfl, hq⟩; replace hd := hq; clear hq; have he1 := (HRN1.out.below hd.below HLT1.out).at_ 1 _ rfl)
    | (go_at_call_of 33 (Value.int IntKind.i64 1); refine (dk_read hd HCZ.out 1 HR1.out).mono ?_; rintro x wq ⟨rfl, hq⟩; replace hd := hq; clear hq; have he1 := (HRN1.out.below hd.below HLT1.out).at_ 1 _ rfl)
    | (go_at_call 24; refine (HJ.out _ (HFd.out.below (HBN.out.trans (hd.below.mono HLB.out)) HFd.out.1)).mono ?_; rintro x wj ⟨rfl, hbq⟩; replace hd := hd.fr (Fr.of_below hbq); clear hbq)
    | ((with_reducible show wpList _ _ _ ({ dst := none, op := .store _ (.tmp 26) (.tmp 128), type := _, pos := _, after := _, guard := _ } :: _) _ _); refine wpl_store_st rfl (.tmp 26) (.tmp 128) rfl (n := 15) HZI.out wj.heap.size #[.int .i64 0, .int .i64 0, .int .i64 0, .int .i64 0, .int .u64 0, .int .u64 0, .int .i64 0, .int .i64 0, .int .i64 0, .int .u64 0, .int .i64 0, .int .i64 0, .int .i64 0, .int .i64 0, .string ⟨#[]⟩] #[.int .i64 1, .int .i64 t.opn, .int .i64 t.view, .int .i64 t.under, .int .u64 (t.parent : Int), .int .u64 (t.sum : Int), .int .i64 e.view, .int .i64 e.opn, .int .i64 e.under, .int .u64 (e.parent : Int), .int .i64 e.client, .int .i64 e.session, .int .i64 e.request, .int .i64 e.oper, .string e.body] rfl rfl (Row.new _ _ _) ?_ (hid rfl) (hid rfl) (hid (by simp [Value.oneCell'])); intro wk HRK HBK; have hrf0 := ((HRN0.out.below hd.below HLT0.out).alloc (.cells #[.int .i64 0, .int .i64 0, .int .i64 0, .int .i64 0, .int .u64 0, .int .u64 0, .int .i64 0, .int .i64 0, .int .i64 0, .int .u64 0, .int .i64 0, .int .i64 0, .int .i64 0, .int .i64 0, .string ⟨#[]⟩] 41)).grown HBK (by have := (HRN0.out.below hd.below HLT0.out).lt; intro e; have := Option.some.inj e; omega); have hrf1 := ((HRN1.out.below hd.below HLT1.out).alloc (.cells #[.int .i64 0, .int .i64 0, .int .i64 0, .int .i64 0, .int .u64 0, .int .u64 0, .int .i64 0, .int .i64 0, .int .i64 0, .int .u64 0, .int .i64 0, .int .i64 0, .int .i64 0, .int .i64 0, .string ⟨#[]⟩] 41)).grown HBK (by have := (HRN1.out.below hd.below HLT1.out).lt; intro e; have := Option.some.inj e; omega); have hbf := ((HBN.out.trans (hd.below.mono HLB.out)).alloc (HBN.out.trans (hd.below.mono HLB.out)).size (.cells #[.int .i64 0, .int .i64 0, .int .i64 0, .int .i64 0, .int .u64 0, .int .u64 0, .int .i64 0, .int .i64 0, .int .i64 0, .int .u64 0, .int .i64 0, .int .i64 0, .int .i64 0, .int .i64 0, .string ⟨#[]⟩] 41)).trans (below_grown HBK (HBN.out.trans (hd.below.mono HLB.out)).size (by have := (HBN.out.trans (hd.below.mono HLB.out)).size; simp; omega)); have hk0 : wk.cell? ⟨wj.heap.size, 0, none⟩ = some (.int .i64 1) := HRK.at_ 0 _ rfl))
  have HRKh := hid HRK
  have HBF := hid hbf
  have HEF := hid hrf1
  clear HRK hbf hrf0 hrf1 hk0
  refine wp_region_held_drew (S := fun W => Below wk.heap.size wk W) (by kernel_rfl) ((Below.refl _ _).drew) (fun hH => ?_)
  refine wpAnyH_take (i := 0) (v := .agg #[.int .i64 1, .int .i64 t.opn, .int .i64 t.view, .int .i64 t.under, .int .u64 (t.parent : Int), .int .u64 (t.sum : Int), .int .i64 e.view, .int .i64 e.opn, .int .i64 e.under, .int .u64 (e.parent : Int), .int .i64 e.client, .int .i64 e.session, .int .i64 e.request, .int .i64 e.oper, .string e.body]) rfl (by kernel_rfl) (by kernel_rfl) (by kernel_rfl) (fun _ _ _ h => h) ?_ hH ?_
  · refine yieldsIf_load_mid ?_ 41 (.tmp 26) ?_ wj.heap.size 0 ?_ (Array.toList #[.int .i64 1, .int .i64 t.opn, .int .i64 t.view, .int .i64 t.under, .int .u64 (t.parent : Int), .int .u64 (t.sum : Int), .int .i64 e.view, .int .i64 e.opn, .int .i64 e.under, .int .u64 (e.parent : Int), .int .i64 e.client, .int .i64 e.session, .int .i64 e.request, .int .i64 e.oper, .string e.body]) _ (fun W hW => Row.range (HRKh.out.below hW HRKh.out.lt)) Tryd.underlying41 rfl (by exact HZI.out)
    all_goals kernel_rfl
  simp only [Act.put]
  refine wpAnyH_take (i := 1) (v := .agg #[.int .i64 e.view, .int .i64 e.opn, .int .i64 e.under, .int .u64 (e.parent : Int), .int .i64 e.client, .int .i64 e.session, .int .i64 e.request, .int .i64 e.oper, .string e.body]) rfl (by kernel_rfl) (by kernel_rfl) (by kernel_rfl) (fun _ _ _ h => h) ?_ hH ?_
  · refine yieldsIf_load_mid ?_ 24 (.tmp 7) ?_ (w.heap.size + 1) 0 ?_ (Array.toList #[.int .i64 e.view, .int .i64 e.opn, .int .i64 e.under, .int .u64 (e.parent : Int), .int .i64 e.client, .int .i64 e.session, .int .i64 e.request, .int .i64 e.oper, .string e.body]) _ (fun W hW => Row.range (HEF.out.below hW HEF.out.lt)) Tryd.underlying24 rfl (by exact HZE.out)
    all_goals kernel_rfl
  simp only [Act.put]
  refine wpAnyH_take (i := 3) (v := .agg #[.int .i64 e.view, .int .i64 e.opn, .int .i64 e.under, .int .u64 (e.parent : Int), .int .i64 e.client, .int .i64 e.session, .int .i64 e.request, .int .i64 e.oper, .string e.body]) rfl (by kernel_rfl) (by kernel_rfl) (by kernel_rfl) (fun _ _ _ h => h) ?_ hH ?_
  · refine yieldsIf_load_mid ?_ 24 (.tmp 7) ?_ (w.heap.size + 1) 0 ?_ (Array.toList #[.int .i64 e.view, .int .i64 e.opn, .int .i64 e.under, .int .u64 (e.parent : Int), .int .i64 e.client, .int .i64 e.session, .int .i64 e.request, .int .i64 e.oper, .string e.body]) _ (fun W hW => Row.range (HEF.out.below hW HEF.out.lt)) Tryd.underlying24 rfl (by exact HZE.out)
    all_goals kernel_rfl
  simp only [Act.put]
  refine wpAnyH_ready (rs := [2]) (by kernel_rfl) (by simp) ?_
  refine AllReadyH.cons rfl (fun K hK => ?_) AllReadyH.nil
  go_simp
  go_at_call 16
  refine (HSt.out _ (HFd.out.below (HBF.out.trans (hH.mono HBF.out.size)) HFd.out.1)).mono ?_
  rintro x w9 ⟨rfl, hb9⟩
  go_wp2_with fail
  refine hK.out _ _ (hH.trans (hb9.mono hH.size)) (fun hH => ?_)
  clear hK K
  try simp only [Act.put]
  refine wpAnyH_take (i := 4) (v := .agg #[.int .i64 1, .int .i64 t.opn, .int .i64 t.view, .int .i64 t.under, .int .u64 (t.parent : Int), .int .u64 (t.sum : Int), .int .i64 e.view, .int .i64 e.opn, .int .i64 e.under, .int .u64 (e.parent : Int), .int .i64 e.client, .int .i64 e.session, .int .i64 e.request, .int .i64 e.oper, .string e.body]) rfl (by kernel_rfl) (by kernel_rfl) (by kernel_rfl) (fun _ _ _ h => h) (Or.inl ⟨by kernel_rfl, fun w' _ => by kernel_rfl⟩) hH ?_
  simp only [Act.put]
  refine wpAnyH_take (i := 5) (v := .bool true) rfl (by kernel_rfl) (by kernel_rfl) (by kernel_rfl) (fun _ _ _ h => h) (yields_eqi (by kernel_rfl) (⟨1, t, e⟩ : It) (⟨1, t, e⟩ : It) true (hid (.inl ⟨rfl, rfl⟩)) (.tmp 135) (.tmp 139) _ rfl (by kernel_rfl) (by kernel_rfl)) hH ?_
  simp only [Act.put]
  refine wpAnyH_ready (rs := [6]) (by kernel_rfl) (by simp) ?_
  refine AllReadyH.cons rfl (fun K hK => ?_) AllReadyH.nil
  go_simp
  refine hK.out _ _ (hH) (fun hH => ?_)
  clear hK K
  try simp only [Act.put]
  refine wpAnyH_done (by kernel_rfl) ?_ _
  try simp only [Act.put]
  go_wp2_with fail
  go_ret
  exact ⟨rfl, HBF.out.trans (hH.mono HBF.out.size)⟩
set_option maxHeartbeats 2000000 in
theorem tears_v4H (o e : En) (u t : St) (P H V X Y : ByteArray) (la lb : List UInt8) (S0 S1 S2 S3 S4 S5 S6 S7 S8 : Sp) (w : World) (hf : Fd w) (A : Option Addr) (l cap : Nat) (picks : List Int) (n : Int) (HNB : Hid (n ≤ 9223372036854775807)) (HL : Hid (l = picks.length)) (HRD : Hid (∀ W, Below w.heap.size w W → Rd W w.heap.size A (ints picks))) (HPI : Hid (∀ x ∈ picks, x ≤ 9223372036854775807)) (HPN : Hid (picks.length ≤ 9223372036854775807))
    (HAW : Hid (∀ W, Fd W → Calls Tryd.prog 10 #[] W (Yes W)))
    (HRo : Hid (∀ W, Calls Tryd.prog 27 #[.agg #[.int .i64 o.view, .int .i64 o.opn, .int .i64 o.under, .int .u64 (o.parent : Int), .int .i64 o.client, .int .i64 o.session, .int .i64 o.request, .int .i64 o.oper, .string o.body]] W (VE W (.bool true))))
    (HRe : Hid (∀ W, Calls Tryd.prog 27 #[.agg #[.int .i64 e.view, .int .i64 e.opn, .int .i64 e.under, .int .u64 (e.parent : Int), .int .i64 e.client, .int .i64 e.session, .int .i64 e.request, .int .i64 e.oper, .string e.body]] W (VE W (.bool true))))
    (hne : (o.opn == e.opn) = false)
    (HPo : Hid (∀ W, Fd W → Calls Tryd.prog 12 #[.string ⟨#[]⟩, .agg #[.int .i64 o.view, .int .i64 o.opn, .int .i64 o.under, .int .u64 (o.parent : Int), .int .i64 o.client, .int .i64 o.session, .int .i64 o.request, .int .i64 o.oper, .string o.body]] W fun x w' => x = .returned (.tuple #[.string P, .int .i64 0]) ∧ Below W.heap.size W w'))
    (HSo : Hid (∀ W, Fd W → Calls Tryd.prog 16 #[.agg #[.int .i64 o.view, .int .i64 o.opn, .int .i64 o.under, .int .u64 (o.parent : Int), .int .i64 o.client, .int .i64 o.session, .int .i64 o.request, .int .i64 o.oper, .string o.body]] W (VE W (.agg #[.int .i64 u.opn, .int .i64 u.view, .int .i64 u.under, .int .u64 (u.parent : Int), .int .u64 (u.sum : Int)]))))
    (HHo : Hid (∀ W, Calls Tryd.prog 14 #[.string ⟨#[]⟩, .agg #[.int .i64 u.opn, .int .i64 u.view, .int .i64 u.under, .int .u64 (u.parent : Int), .int .u64 (u.sum : Int)]] W fun x w' => x = .returned (.tuple #[.string H, .int .i64 0]) ∧ Below W.heap.size W w'))
    (HV : Hid (∀ W, Calls Tryd.prog 18 #[.string ⟨#[]⟩] W fun x w' => x = .returned (.string V) ∧ Below W.heap.size W w'))
    (HPe : Hid (∀ W, Fd W → Calls Tryd.prog 12 #[.string V, .agg #[.int .i64 e.view, .int .i64 e.opn, .int .i64 e.under, .int .u64 (e.parent : Int), .int .i64 e.client, .int .i64 e.session, .int .i64 e.request, .int .i64 e.oper, .string e.body]] W fun x w' => x = .returned (.tuple #[.string X, .int .i64 0]) ∧ Below W.heap.size W w'))
    (HSt : Hid (∀ W, Fd W → Calls Tryd.prog 16 #[.agg #[.int .i64 e.view, .int .i64 e.opn, .int .i64 e.under, .int .u64 (e.parent : Int), .int .i64 e.client, .int .i64 e.session, .int .i64 e.request, .int .i64 e.oper, .string e.body]] W (VE W (.agg #[.int .i64 t.opn, .int .i64 t.view, .int .i64 t.under, .int .u64 (t.parent : Int), .int .u64 (t.sum : Int)]))))
    (HHe : Hid (∀ W, Calls Tryd.prog 14 #[.string V, .agg #[.int .i64 t.opn, .int .i64 t.view, .int .i64 t.under, .int .u64 (t.parent : Int), .int .u64 (t.sum : Int)]] W fun x w' => x = .returned (.tuple #[.string Y, .int .i64 0]) ∧ Below W.heap.size W w'))
    (HS0 : Hid (Sp.mk0 2 = S0))
    (HW0 : Hid (S0.write 0 (sb V) = (S1, 0)))
    (HW1 : Hid (S1.write 1 (sb V) = (S2, 0)))
    (HF0 : Hid (S2.flush = (S3, 0)))
    (HFu : Hid (S3.fuse n = (S4, 0)))
    (HX0 : Hid (S4.write 0 (sb X) = (S5, 0)))
    (HX1 : Hid (S5.flush = (S6, 0)))
    (HX2 : Hid (S6.write 1 (sb Y) = (S7, 0)))
    (HX3 : Hid (S7.flush = (S8, 0)))
    (HON : Hid (S8.on = true))
    (HC0 : Hid (S0.count ≤ 1048576))
    (HC1 : Hid (S1.count ≤ 1048576))
    (HC2 : Hid (S2.count ≤ 1048576))
    (HC3 : Hid (S3.count ≤ 1048576))
    (HC4 : Hid (S4.count ≤ 1048576))
    (HC5 : Hid (S5.count ≤ 1048576))
    (HC6 : Hid (S6.count ≤ 1048576))
    (HC7 : Hid (S7.count ≤ 1048576))
    (HC8 : Hid (S8.count ≤ 1048576))
    (HR0 : Hid (S8.read 0 = (la, 0)))
    (HR1 : Hid (S8.read 1 = (lb, 0)))
    (HJ : Hid (∀ W, Fd W → Calls Tryd.prog 24 #[.string ⟨la.toArray⟩, .string ⟨lb.toArray⟩, .int .i64 e.opn] W (VE W (.agg #[.int .i64 1, .int .i64 t.opn, .int .i64 t.view, .int .i64 t.under, .int .u64 (t.parent : Int), .int .u64 (t.sum : Int), .int .i64 e.view, .int .i64 e.opn, .int .i64 e.under, .int .u64 (e.parent : Int), .int .i64 e.client, .int .i64 e.session, .int .i64 e.request, .int .i64 e.oper, .string e.body])))) :
    Calls Tryd.prog 6 #[.agg #[.int .i64 o.view, .int .i64 o.opn, .int .i64 o.under, .int .u64 (o.parent : Int), .int .i64 o.client, .int .i64 o.session, .int .i64 o.request, .int .i64 o.oper, .string o.body], .bool true, .agg #[.int .i64 e.view, .int .i64 e.opn, .int .i64 e.under, .int .u64 (e.parent : Int), .int .i64 e.client, .int .i64 e.session, .int .i64 e.request, .int .i64 e.oper, .string e.body], .int .i64 n, .slice A l cap] w (Yes w) := by
  have qq : True := (fun _ _ _ _ _ => trivial) HL HRD HPI HPN HC3
  clear qq
  have HZE := hid esize
  have HZI := hid isize
  have HFd := hid hf
  clear hf
  go_enter Tryd.func6, Tryd.ntmps6
  go_wp2_with (first
    | (go_at_call 10; refine (HAW.out _ (HFd.out.below (((Below.refl w.heap.size w).alloc (Nat.le_refl _) _).alloc (by simp) _) HFd.out.1)).mono ?_; rintro x w1 ⟨rfl, hbq⟩; have hre0 := ((Row.new w 24 #[.int .i64 o.view, .int .i64 o.opn, .int .i64 o.under, .int .u64 (o.parent : Int), .int .i64 o.client, .int .i64 o.session, .int .i64 o.request, .int .i64 o.oper, .string o.body]).alloc (.cells #[.int .i64 e.view, .int .i64 e.opn, .int .i64 e.under, .int .u64 (e.parent : Int), .int .i64 e.client, .int .i64 e.session, .int .i64 e.request, .int .i64 e.oper, .string e.body] 24)).below hbq (by simp; omega); have hre1 : Row w1 (w.heap.size + 1) 24 (Array.toList #[.int .i64 e.view, .int .i64 e.opn, .int .i64 e.under, .int .u64 (e.parent : Int), .int .i64 e.client, .int .i64 e.session, .int .i64 e.request, .int .i64 e.oper, .string e.body]) := Row.below (B := w.heap.size + 1 + 1) (alloc2_new _ _ _) (hbq.mono (by simp)) (by omega); have hbe := (((Below.refl w.heap.size w).alloc (Nat.le_refl _) (.cells #[.int .i64 o.view, .int .i64 o.opn, .int .i64 o.under, .int .u64 (o.parent : Int), .int .i64 o.client, .int .i64 o.session, .int .i64 o.request, .int .i64 o.oper, .string o.body] 24)).alloc (by simp) (.cells #[.int .i64 e.view, .int .i64 e.opn, .int .i64 e.under, .int .u64 (e.parent : Int), .int .i64 e.client, .int .i64 e.session, .int .i64 e.request, .int .i64 e.oper, .string e.body] 24)).trans (hbq.mono (by simp; omega)); clear hbq)
    | (go_at_call 26; refine (dk_new 2 _ (by omega) (by omega)).mono ?_; rintro x w2 ⟨p, gs, rfl, hd⟩; rw [HS0.out] at hd; unfold dptr; have HBN := hid hbe; have HLB := hid hbe.size; clear hbe; have HRN0 := hid hre0; have HLT0 := hid hre0.lt; clear hre0; have HRN1 := hid hre1; have HLT1 := hid hre1.lt; clear hre1; have hgs : w1.heap.size ≤ gs := (by obtain ⟨vw, _, h2, _⟩ := hd; exact h2 gs (by simp [fpD])))
    | ((with_reducible show wpList _ _ _ ({ dst := _, op := .load 24 (.tmp 5), type := _, pos := _, after := _, guard := _ } :: _) _ _); refine wpl_load_want rfl 24 (.tmp 5) rfl w.heap.size rfl 24 #[.int .i64 o.view, .int .i64 o.opn, .int .i64 o.under, .int .u64 (o.parent : Int), .int .i64 o.client, .int .i64 o.session, .int .i64 o.request, .int .i64 o.oper, .string o.body] (0, 0) _ (Row.arr (cs := #[.int .i64 o.view, .int .i64 o.opn, .int .i64 o.under, .int .u64 (o.parent : Int), .int .i64 o.client, .int .i64 o.session, .int .i64 o.request, .int .i64 o.oper, .string o.body]) (HRN0.out.below hd.below HLT0.out)) Tryd.underlying24 rfl HZE.out ?_)
    | ((with_reducible show wpList _ _ _ ({ dst := _, op := .load 24 (.tmp 7), type := _, pos := _, after := _, guard := _ } :: _) _ _); refine wpl_load_want rfl 24 (.tmp 7) rfl (w.heap.size + 1) rfl 24 #[.int .i64 e.view, .int .i64 e.opn, .int .i64 e.under, .int .u64 (e.parent : Int), .int .i64 e.client, .int .i64 e.session, .int .i64 e.request, .int .i64 e.oper, .string e.body] (0, 0) _ (Row.arr (cs := #[.int .i64 e.view, .int .i64 e.opn, .int .i64 e.under, .int .u64 (e.parent : Int), .int .i64 e.client, .int .i64 e.session, .int .i64 e.request, .int .i64 e.oper, .string e.body]) (HRN1.out.below hd.below HLT1.out)) Tryd.underlying24 rfl HZE.out ?_)
    | (go_at_call_of 27 (Value.agg #[.int .i64 o.view, .int .i64 o.opn, .int .i64 o.under, .int .u64 (o.parent : Int), .int .i64 o.client, .int .i64 o.session, .int .i64 o.request, .int .i64 o.oper, .string o.body]); refine (HRo.out _).mono ?_; rintro x wq ⟨rfl, hbq⟩; replace hd := hd.fr (Fr.of_below hbq); clear hbq)
    | (go_at_call_of 27 (Value.agg #[.int .i64 e.view, .int .i64 e.opn, .int .i64 e.under, .int .u64 (e.parent : Int), .int .i64 e.client, .int .i64 e.session, .int .i64 e.request, .int .i64 e.oper, .string e.body]); refine (HRe.out _).mono ?_; rintro x wq ⟨rfl, hbq⟩; replace hd := hd.fr (Fr.of_below hbq); clear hbq; have ho1 := (HRN0.out.below hd.below HLT0.out).at_ 1 _ rfl; have he1 := (HRN1.out.below hd.below HLT1.out).at_ 1 _ rfl)
    | (go_at_call_of 12 (Value.agg #[.int .i64 o.view, .int .i64 o.opn, .int .i64 o.under, .int .u64 (o.parent : Int), .int .i64 o.client, .int .i64 o.session, .int .i64 o.request, .int .i64 o.oper, .string o.body]); refine (HPo.out _ (HFd.out.below (HBN.out.trans (hd.below.mono HLB.out)) HFd.out.1)).mono ?_; rintro x wq ⟨rfl, hbq⟩; replace hd := hd.fr (Fr.of_below hbq); clear hbq)
    | (go_at_call_of 12 (Value.agg #[.int .i64 e.view, .int .i64 e.opn, .int .i64 e.under, .int .u64 (e.parent : Int), .int .i64 e.client, .int .i64 e.session, .int .i64 e.request, .int .i64 e.oper, .string e.body]); refine (HPe.out _ (HFd.out.below (HBN.out.trans (hd.below.mono HLB.out)) HFd.out.1)).mono ?_; rintro x wq ⟨rfl, hbq⟩; replace hd := hd.fr (Fr.of_below hbq); clear hbq)
    | (go_at_call_of 16 (Value.agg #[.int .i64 o.view, .int .i64 o.opn, .int .i64 o.under, .int .u64 (o.parent : Int), .int .i64 o.client, .int .i64 o.session, .int .i64 o.request, .int .i64 o.oper, .string o.body]); refine (HSo.out _ (HFd.out.below (HBN.out.trans (hd.below.mono HLB.out)) HFd.out.1)).mono ?_; rintro x wq ⟨rfl, hbq⟩; replace hd := hd.fr (Fr.of_below hbq); clear hbq)
    | (go_at_call_of 16 (Value.agg #[.int .i64 e.view, .int .i64 e.opn, .int .i64 e.under, .int .u64 (e.parent : Int), .int .i64 e.client, .int .i64 e.session, .int .i64 e.request, .int .i64 e.oper, .string e.body]); refine (HSt.out _ (HFd.out.below (HBN.out.trans (hd.below.mono HLB.out)) HFd.out.1)).mono ?_; rintro x wq ⟨rfl, hbq⟩; replace hd := hd.fr (Fr.of_below hbq); clear hbq)
    | (go_at_call_of 14 (Value.agg #[.int .i64 u.opn, .int .i64 u.view, .int .i64 u.under, .int .u64 (u.parent : Int), .int .u64 (u.sum : Int)]); refine (HHo.out _).mono ?_; rintro x wq ⟨rfl, hbq⟩; replace hd := hd.fr (Fr.of_below hbq); clear hbq)
    | (go_at_call_of 14 (Value.agg #[.int .i64 t.opn, .int .i64 t.view, .int .i64 t.under, .int .u64 (t.parent : Int), .int .u64 (t.sum : Int)]); refine (HHe.out _).mono ?_; rintro x wq ⟨rfl, hbq⟩; replace hd := hd.fr (Fr.of_below hbq); clear hbq)
    | (go_at_call 18; refine (HV.out _).mono ?_; rintro x wq ⟨rfl, hbq⟩; replace hd := hd.fr (Fr.of_below hbq); clear hbq)
    | (go_at_call 28; (first | refine (dk_write hd HC0.out 0 V HW0.out).mono ?_ | refine (dk_write hd HC1.out 1 V HW1.out).mono ?_ | refine (dk_write hd HC4.out 0 X HX0.out).mono ?_ | refine (dk_write hd HC6.out 1 Y HX2.out).mono ?_); rintro x wq ⟨rfl, hq⟩; replace hd := hq; clear hq)
    | (go_at_call 29; (first | refine (dk_flush hd HC2.out HF0.out).mono ?_ | refine (dk_flush hd HC5.out HX1.out).mono ?_ | refine (dk_flush hd HC7.out HX3.out).mono ?_); rintro x wq ⟨rfl, hq⟩; replace hd := hq; clear hq)
    | (go_at_call 30; refine (dk_fuse hd n HNB.out HFu.out).mono ?_; rintro x wq ⟨rfl, hq⟩; replace hd := hq; clear hq)
    | (go_at_call 31; refine (dk_on hd HON.out).mono ?_; rintro x wq ⟨rfl, rfl⟩)
    | (go_at_call_of 33 (Value.int IntKind.i64 0); refine (dk_read hd HC8.out 0 HR0.out).mono ?_; rintro x wq ⟨rfl, hq⟩; replace hd := hq; clear hq; have he1 := (HRN1.out.below hd.below HLT1.out).at_ 1 _ rfl)
    | (go_at_call_of 33 (Value.int IntKind.i64 1); refine (dk_read hd HC8.out 1 HR1.out).mono ?_; rintro x wq ⟨rfl, hq⟩; replace hd := hq; clear hq; have he1 := (HRN1.out.below hd.below HLT1.out).at_ 1 _ rfl)
    | (go_at_call 24; refine (HJ.out _ (HFd.out.below (HBN.out.trans (hd.below.mono HLB.out)) HFd.out.1)).mono ?_; rintro x wj ⟨rfl, hbq⟩; replace hd := hd.fr (Fr.of_below hbq); clear hbq)
    | ((with_reducible show wpList _ _ _ ({ dst := none, op := .store _ (.tmp 26) (.tmp 128), type := _, pos := _, after := _, guard := _ } :: _) _ _); refine wpl_store_st rfl (.tmp 26) (.tmp 128) rfl (n := 15) HZI.out wj.heap.size #[.int .i64 0, .int .i64 0, .int .i64 0, .int .i64 0, .int .u64 0, .int .u64 0, .int .i64 0, .int .i64 0, .int .i64 0, .int .u64 0, .int .i64 0, .int .i64 0, .int .i64 0, .int .i64 0, .string ⟨#[]⟩] #[.int .i64 1, .int .i64 t.opn, .int .i64 t.view, .int .i64 t.under, .int .u64 (t.parent : Int), .int .u64 (t.sum : Int), .int .i64 e.view, .int .i64 e.opn, .int .i64 e.under, .int .u64 (e.parent : Int), .int .i64 e.client, .int .i64 e.session, .int .i64 e.request, .int .i64 e.oper, .string e.body] rfl rfl (Row.new _ _ _) ?_ (hid rfl) (hid rfl) (hid (by simp [Value.oneCell'])); intro wk HRK HBK; have hrf0 := ((HRN0.out.below hd.below HLT0.out).alloc (.cells #[.int .i64 0, .int .i64 0, .int .i64 0, .int .i64 0, .int .u64 0, .int .u64 0, .int .i64 0, .int .i64 0, .int .i64 0, .int .u64 0, .int .i64 0, .int .i64 0, .int .i64 0, .int .i64 0, .string ⟨#[]⟩] 41)).grown HBK (by have := (HRN0.out.below hd.below HLT0.out).lt; intro e; have := Option.some.inj e; omega); have hrf1 := ((HRN1.out.below hd.below HLT1.out).alloc (.cells #[.int .i64 0, .int .i64 0, .int .i64 0, .int .i64 0, .int .u64 0, .int .u64 0, .int .i64 0, .int .i64 0, .int .i64 0, .int .u64 0, .int .i64 0, .int .i64 0, .int .i64 0, .int .i64 0, .string ⟨#[]⟩] 41)).grown HBK (by have := (HRN1.out.below hd.below HLT1.out).lt; intro e; have := Option.some.inj e; omega); have hbf := ((HBN.out.trans (hd.below.mono HLB.out)).alloc (HBN.out.trans (hd.below.mono HLB.out)).size (.cells #[.int .i64 0, .int .i64 0, .int .i64 0, .int .i64 0, .int .u64 0, .int .u64 0, .int .i64 0, .int .i64 0, .int .i64 0, .int .u64 0, .int .i64 0, .int .i64 0, .int .i64 0, .int .i64 0, .string ⟨#[]⟩] 41)).trans (below_grown HBK (HBN.out.trans (hd.below.mono HLB.out)).size (by have := (HBN.out.trans (hd.below.mono HLB.out)).size; simp; omega)); have hk0 : wk.cell? ⟨wj.heap.size, 0, none⟩ = some (.int .i64 1) := HRK.at_ 0 _ rfl))
  have HRKh := hid HRK
  have HBF := hid hbf
  have HEF := hid hrf1
  clear HRK hbf hrf0 hrf1 hk0
  refine wp_region_held_drew (S := fun W => Below wk.heap.size wk W) (by kernel_rfl) ((Below.refl _ _).drew) (fun hH => ?_)
  refine wpAnyH_take (i := 0) (v := .agg #[.int .i64 1, .int .i64 t.opn, .int .i64 t.view, .int .i64 t.under, .int .u64 (t.parent : Int), .int .u64 (t.sum : Int), .int .i64 e.view, .int .i64 e.opn, .int .i64 e.under, .int .u64 (e.parent : Int), .int .i64 e.client, .int .i64 e.session, .int .i64 e.request, .int .i64 e.oper, .string e.body]) rfl (by kernel_rfl) (by kernel_rfl) (by kernel_rfl) (fun _ _ _ h => h) ?_ hH ?_
  · refine yieldsIf_load_mid ?_ 41 (.tmp 26) ?_ wj.heap.size 0 ?_ (Array.toList #[.int .i64 1, .int .i64 t.opn, .int .i64 t.view, .int .i64 t.under, .int .u64 (t.parent : Int), .int .u64 (t.sum : Int), .int .i64 e.view, .int .i64 e.opn, .int .i64 e.under, .int .u64 (e.parent : Int), .int .i64 e.client, .int .i64 e.session, .int .i64 e.request, .int .i64 e.oper, .string e.body]) _ (fun W hW => Row.range (HRKh.out.below hW HRKh.out.lt)) Tryd.underlying41 rfl (by exact HZI.out)
    all_goals kernel_rfl
  simp only [Act.put]
  refine wpAnyH_take (i := 1) (v := .agg #[.int .i64 e.view, .int .i64 e.opn, .int .i64 e.under, .int .u64 (e.parent : Int), .int .i64 e.client, .int .i64 e.session, .int .i64 e.request, .int .i64 e.oper, .string e.body]) rfl (by kernel_rfl) (by kernel_rfl) (by kernel_rfl) (fun _ _ _ h => h) ?_ hH ?_
  · refine yieldsIf_load_mid ?_ 24 (.tmp 7) ?_ (w.heap.size + 1) 0 ?_ (Array.toList #[.int .i64 e.view, .int .i64 e.opn, .int .i64 e.under, .int .u64 (e.parent : Int), .int .i64 e.client, .int .i64 e.session, .int .i64 e.request, .int .i64 e.oper, .string e.body]) _ (fun W hW => Row.range (HEF.out.below hW HEF.out.lt)) Tryd.underlying24 rfl (by exact HZE.out)
    all_goals kernel_rfl
  simp only [Act.put]
  refine wpAnyH_take (i := 3) (v := .agg #[.int .i64 e.view, .int .i64 e.opn, .int .i64 e.under, .int .u64 (e.parent : Int), .int .i64 e.client, .int .i64 e.session, .int .i64 e.request, .int .i64 e.oper, .string e.body]) rfl (by kernel_rfl) (by kernel_rfl) (by kernel_rfl) (fun _ _ _ h => h) ?_ hH ?_
  · refine yieldsIf_load_mid ?_ 24 (.tmp 7) ?_ (w.heap.size + 1) 0 ?_ (Array.toList #[.int .i64 e.view, .int .i64 e.opn, .int .i64 e.under, .int .u64 (e.parent : Int), .int .i64 e.client, .int .i64 e.session, .int .i64 e.request, .int .i64 e.oper, .string e.body]) _ (fun W hW => Row.range (HEF.out.below hW HEF.out.lt)) Tryd.underlying24 rfl (by exact HZE.out)
    all_goals kernel_rfl
  simp only [Act.put]
  refine wpAnyH_ready (rs := [2]) (by kernel_rfl) (by simp) ?_
  refine AllReadyH.cons rfl (fun K hK => ?_) AllReadyH.nil
  go_simp
  go_at_call 16
  refine (HSt.out _ (HFd.out.below (HBF.out.trans (hH.mono HBF.out.size)) HFd.out.1)).mono ?_
  rintro x w9 ⟨rfl, hb9⟩
  go_wp2_with fail
  refine hK.out _ _ (hH.trans (hb9.mono hH.size)) (fun hH => ?_)
  clear hK K
  try simp only [Act.put]
  refine wpAnyH_take (i := 4) (v := .agg #[.int .i64 1, .int .i64 t.opn, .int .i64 t.view, .int .i64 t.under, .int .u64 (t.parent : Int), .int .u64 (t.sum : Int), .int .i64 e.view, .int .i64 e.opn, .int .i64 e.under, .int .u64 (e.parent : Int), .int .i64 e.client, .int .i64 e.session, .int .i64 e.request, .int .i64 e.oper, .string e.body]) rfl (by kernel_rfl) (by kernel_rfl) (by kernel_rfl) (fun _ _ _ h => h) (Or.inl ⟨by kernel_rfl, fun w' _ => by kernel_rfl⟩) hH ?_
  simp only [Act.put]
  refine wpAnyH_take (i := 5) (v := .bool true) rfl (by kernel_rfl) (by kernel_rfl) (by kernel_rfl) (fun _ _ _ h => h) (yields_eqi (by kernel_rfl) (⟨1, t, e⟩ : It) (⟨1, t, e⟩ : It) true (hid (.inl ⟨rfl, rfl⟩)) (.tmp 135) (.tmp 139) _ rfl (by kernel_rfl) (by kernel_rfl)) hH ?_
  simp only [Act.put]
  refine wpAnyH_ready (rs := [6]) (by kernel_rfl) (by simp) ?_
  refine AllReadyH.cons rfl (fun K hK => ?_) AllReadyH.nil
  go_simp
  refine hK.out _ _ (hH) (fun hH => ?_)
  clear hK K
  try simp only [Act.put]
  refine wpAnyH_done (by kernel_rfl) ?_ _
  try simp only [Act.put]
  go_wp2_with fail
  go_ret
  exact ⟨rfl, HBF.out.trans (hH.mono HBF.out.size)⟩
end Go.Proofs.YtdcoiehhnllhmaaDoor
