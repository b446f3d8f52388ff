/-
  The walks of SlotReads, SlotJudges.
-/
import Derived.Test.YtdcoiehhnllhmaaDoorRjd
namespace Go.Proofs.YtdcoiehhnllhmaaDoor
open Go.RowKit
set_option maxRecDepth 10000

theorem longr_any (s : ByteArray) (w : World) : Calls Tryd.prog 11 #[.string s] w fun e w' => e = .returned (.bool (decide (5000 < (s.size : Int)))) ∧ w = w' := by
  go_enter Tryd.func11, Tryd.ntmps11
  go_wp2
  go_ret
  exact ⟨rfl, rfl⟩
set_option maxHeartbeats 2000000 in
theorem reads_N (p : ByteArray) (w : World) (hf : Fd w) (HAW : Hid (∀ W, Fd W → Calls Tryd.prog 10 #[] W (Yes W)))
    (HLp : Hid (∀ W, Calls Tryd.prog 11 #[.string p] W fun x w' => x = .returned (.bool true) ∧ W = w')) :
    Calls Tryd.prog 4 #[.string p] w (Yes w) := by
  have HZE := hid esize
  have HZS := hid stsize
  have HFd := hid hf
  have hbe := Below.refl w.heap.size w
  clear hf
  go_enter Tryd.func4, Tryd.ntmps4
  go_wp2_with (first
    | (go_at_call 10; refine (HAW.out _ (HFd.out.below hbe HFd.out.1)).mono ?_; rintro x1 w1 ⟨rfl, hbq⟩; replace hbe := hbe.trans (hbq.mono hbe.size); clear hbq)
    | (go_at_call_of 11 (Value.string p); refine (HLp.out _).mono ?_; rintro x1 wq ⟨rfl, rfl⟩))
  go_ret
  exact ⟨rfl, hbe⟩
set_option maxHeartbeats 2000000 in
theorem reads_Y (p : ByteArray) (e : En) (s : St) (b1 b2 c1 c2 : Bool) (w : World) (hf : Fd w) (HAW : Hid (∀ W, Fd W → Calls Tryd.prog 10 #[] W (Yes W)))
    (HLp : Hid (∀ W, Calls Tryd.prog 11 #[.string p] W fun x w' => x = .returned (.bool false) ∧ W = w'))
    (HA : Hid (∀ W, Fd W → Calls Tryd.prog 20 #[.string p] W (LQ W #[.int .i64 e.view, .int .i64 e.opn, .int .i64 e.under, .int .u64 (e.parent : Int), .int .i64 e.client, .int .i64 e.session, .int .i64 e.request, .int .i64 e.oper, .string e.body] b1 b2)))
    (HB : Hid (∀ W, Calls Tryd.prog 22 #[.string p] W (LQ W #[.int .i64 e.view, .int .i64 e.opn, .int .i64 e.under, .int .u64 (e.parent : Int), .int .i64 e.client, .int .i64 e.session, .int .i64 e.request, .int .i64 e.oper, .string e.body] b1 b2)))
    (HC : Hid (∀ W, Calls Tryd.prog 21 #[.string p] W (LQ W #[.int .i64 s.opn, .int .i64 s.view, .int .i64 s.under, .int .u64 (s.parent : Int), .int .u64 (s.sum : Int)] c1 c2)))
    (HD : Hid (∀ W, Calls Tryd.prog 23 #[.string p] W (LQ W #[.int .i64 s.opn, .int .i64 s.view, .int .i64 s.under, .int .u64 (s.parent : Int), .int .u64 (s.sum : Int)] c1 c2))) :
    Calls Tryd.prog 4 #[.string p] w (Yes w) := by
  have HZE := hid esize
  have HZS := hid stsize
  have HFd := hid hf
  have hbe := Below.refl w.heap.size w
  clear hf
  go_enter Tryd.func4, Tryd.ntmps4
  go_wp2_with (first
    | (go_at_call 10; refine (HAW.out _ (HFd.out.below hbe HFd.out.1)).mono ?_; rintro x1 w1 ⟨rfl, hbq⟩; replace hbe := hbe.trans (hbq.mono hbe.size); clear hbq)
    | (go_at_call_of 11 (Value.string p); refine (HLp.out _).mono ?_; rintro x1 wq ⟨rfl, rfl⟩)
    | (go_at_call 20; refine (HA.out _ (HFd.out.below hbe HFd.out.1)).mono ?_; rintro x1 wa ⟨rfl, hbq⟩; replace hbe := hbe.trans (hbq.mono hbe.size); clear hbq)
    | ((with_reducible show wpList _ _ _ ({ dst := none, op := .store _ (.tmp 3) (.tmp 22), type := _, pos := _, after := _, guard := _ } :: _) _ _); refine wpl_store_st rfl (.tmp 3) (.tmp 22) rfl (n := 9) HZE.out wa.heap.size #[.int .i64 0, .int .i64 0, .int .i64 0, .int .u64 0, .int .i64 0, .int .i64 0, .int .i64 0, .int .i64 0, .string ⟨#[]⟩] #[.int .i64 e.view, .int .i64 e.opn, .int .i64 e.under, .int .u64 (e.parent : Int), .int .i64 e.client, .int .i64 e.session, .int .i64 e.request, .int .i64 e.oper, .string e.body] rfl rfl (Row.new _ _ _) ?_ (hid rfl) (hid rfl) (hid (ecells_one _)); intro wz ha HBa; replace hbe := (hbe.alloc hbe.size (.cells #[.int .i64 0, .int .i64 0, .int .i64 0, .int .u64 0, .int .i64 0, .int .i64 0, .int .i64 0, .int .i64 0, .string ⟨#[]⟩] 24)).trans (below_grown HBa hbe.size (by have := hbe.size; simp; omega)))
    | (go_at_call 22; refine (HB.out _).mono ?_; rintro x1 wb ⟨rfl, hbq⟩; replace ha := ha.below hbq ha.lt; replace hbe := hbe.trans (hbq.mono hbe.size); clear hbq)
    | ((with_reducible show wpList _ _ _ ({ dst := none, op := .store _ (.tmp 6) (.tmp 28), type := _, pos := _, after := _, guard := _ } :: _) _ _); refine wpl_store_st rfl (.tmp 6) (.tmp 28) rfl (n := 9) HZE.out wb.heap.size #[.int .i64 0, .int .i64 0, .int .i64 0, .int .u64 0, .int .i64 0, .int .i64 0, .int .i64 0, .int .i64 0, .string ⟨#[]⟩] #[.int .i64 e.view, .int .i64 e.opn, .int .i64 e.under, .int .u64 (e.parent : Int), .int .i64 e.client, .int .i64 e.session, .int .i64 e.request, .int .i64 e.oper, .string e.body] rfl rfl (Row.new _ _ _) ?_ (hid rfl) (hid rfl) (hid (ecells_one _)); intro wz hb HBb; replace ha := (ha.alloc (.cells #[.int .i64 0, .int .i64 0, .int .i64 0, .int .u64 0, .int .i64 0, .int .i64 0, .int .i64 0, .int .i64 0, .string ⟨#[]⟩] 24)).grown HBb (by have := ha.lt; intro e; have := Option.some.inj e; omega); replace hbe := (hbe.alloc hbe.size (.cells #[.int .i64 0, .int .i64 0, .int .i64 0, .int .u64 0, .int .i64 0, .int .i64 0, .int .i64 0, .int .i64 0, .string ⟨#[]⟩] 24)).trans (below_grown HBb hbe.size (by have := hbe.size; simp; omega)))
    | (go_at_call 21; refine (HC.out _).mono ?_; rintro x1 wc ⟨rfl, hbq⟩; replace ha := ha.below hbq ha.lt; replace hb := hb.below hbq hb.lt; replace hbe := hbe.trans (hbq.mono hbe.size); clear hbq)
    | ((with_reducible show wpList _ _ _ ({ dst := none, op := .store _ (.tmp 9) (.tmp 34), type := _, pos := _, after := _, guard := _ } :: _) _ _); refine wpl_store_st rfl (.tmp 9) (.tmp 34) rfl (n := 5) HZS.out wc.heap.size #[.int .i64 0, .int .i64 0, .int .i64 0, .int .u64 0, .int .u64 0] #[.int .i64 s.opn, .int .i64 s.view, .int .i64 s.under, .int .u64 (s.parent : Int), .int .u64 (s.sum : Int)] rfl rfl (Row.new _ _ _) ?_ (hid rfl) (hid rfl) (hid (stcells_one _)); intro wz hc HBc; replace ha := (ha.alloc (.cells #[.int .i64 0, .int .i64 0, .int .i64 0, .int .u64 0, .int .u64 0] 26)).grown HBc (by have := ha.lt; intro e; have := Option.some.inj e; omega); replace hb := (hb.alloc (.cells #[.int .i64 0, .int .i64 0, .int .i64 0, .int .u64 0, .int .u64 0] 26)).grown HBc (by have := hb.lt; intro e; have := Option.some.inj e; omega); replace hbe := (hbe.alloc hbe.size (.cells #[.int .i64 0, .int .i64 0, .int .i64 0, .int .u64 0, .int .u64 0] 26)).trans (below_grown HBc hbe.size (by have := hbe.size; simp; omega)))
    | (go_at_call 23; refine (HD.out _).mono ?_; rintro x1 wd ⟨rfl, hbq⟩; replace ha := ha.below hbq ha.lt; replace hb := hb.below hbq hb.lt; replace hc := hc.below hbq hc.lt; replace hbe := hbe.trans (hbq.mono hbe.size); clear hbq)
    | ((with_reducible show wpList _ _ _ ({ dst := none, op := .store _ (.tmp 12) (.tmp 40), type := _, pos := _, after := _, guard := _ } :: _) _ _); refine wpl_store_st rfl (.tmp 12) (.tmp 40) rfl (n := 5) HZS.out wd.heap.size #[.int .i64 0, .int .i64 0, .int .i64 0, .int .u64 0, .int .u64 0] #[.int .i64 s.opn, .int .i64 s.view, .int .i64 s.under, .int .u64 (s.parent : Int), .int .u64 (s.sum : Int)] rfl rfl (Row.new _ _ _) ?_ (hid rfl) (hid rfl) (hid (stcells_one _)); intro wz hd HBd; replace ha := (ha.alloc (.cells #[.int .i64 0, .int .i64 0, .int .i64 0, .int .u64 0, .int .u64 0] 26)).grown HBd (by have := ha.lt; intro e; have := Option.some.inj e; omega); replace hb := (hb.alloc (.cells #[.int .i64 0, .int .i64 0, .int .i64 0, .int .u64 0, .int .u64 0] 26)).grown HBd (by have := hb.lt; intro e; have := Option.some.inj e; omega); replace hc := (hc.alloc (.cells #[.int .i64 0, .int .i64 0, .int .i64 0, .int .u64 0, .int .u64 0] 26)).grown HBd (by have := hc.lt; intro e; have := Option.some.inj e; omega); replace hbe := (hbe.alloc hbe.size (.cells #[.int .i64 0, .int .i64 0, .int .i64 0, .int .u64 0, .int .u64 0] 26)).trans (below_grown HBd hbe.size (by have := hbe.size; simp; omega)))
    | ((with_reducible show wpList _ _ _ ({ dst := _, op := .load 24 (.tmp 3), type := _, pos := _, after := _, guard := _ } :: _) _ _); refine wpl_load_want rfl 24 (.tmp 3) rfl wa.heap.size rfl 24 #[.int .i64 e.view, .int .i64 e.opn, .int .i64 e.under, .int .u64 (e.parent : Int), .int .i64 e.client, .int .i64 e.session, .int .i64 e.request, .int .i64 e.oper, .string e.body] (0, 0) _ (Row.arr (cs := #[.int .i64 e.view, .int .i64 e.opn, .int .i64 e.under, .int .u64 (e.parent : Int), .int .i64 e.client, .int .i64 e.session, .int .i64 e.request, .int .i64 e.oper, .string e.body]) ha) Tryd.underlying24 rfl HZE.out ?_)
    | ((with_reducible show wpList _ _ _ ({ dst := _, op := .load 24 (.tmp 6), type := _, pos := _, after := _, guard := _ } :: _) _ _); refine wpl_load_want rfl 24 (.tmp 6) rfl wb.heap.size rfl 24 #[.int .i64 e.view, .int .i64 e.opn, .int .i64 e.under, .int .u64 (e.parent : Int), .int .i64 e.client, .int .i64 e.session, .int .i64 e.request, .int .i64 e.oper, .string e.body] (0, 0) _ (Row.arr (cs := #[.int .i64 e.view, .int .i64 e.opn, .int .i64 e.under, .int .u64 (e.parent : Int), .int .i64 e.client, .int .i64 e.session, .int .i64 e.request, .int .i64 e.oper, .string e.body]) hb) Tryd.underlying24 rfl HZE.out ?_)
    | ((with_reducible show wpList _ _ _ ({ dst := _, op := .load 26 (.tmp 9), type := _, pos := _, after := _, guard := _ } :: _) _ _); refine wpl_load_want rfl 26 (.tmp 9) rfl wc.heap.size rfl 26 #[.int .i64 s.opn, .int .i64 s.view, .int .i64 s.under, .int .u64 (s.parent : Int), .int .u64 (s.sum : Int)] (0, 0) _ (Row.arr (cs := #[.int .i64 s.opn, .int .i64 s.view, .int .i64 s.under, .int .u64 (s.parent : Int), .int .u64 (s.sum : Int)]) hc) Tryd.underlying26 rfl HZS.out ?_)
    | ((with_reducible show wpList _ _ _ ({ dst := _, op := .load 26 (.tmp 12), type := _, pos := _, after := _, guard := _ } :: _) _ _); refine wpl_load_want rfl 26 (.tmp 12) rfl wd.heap.size rfl 26 #[.int .i64 s.opn, .int .i64 s.view, .int .i64 s.under, .int .u64 (s.parent : Int), .int .u64 (s.sum : Int)] (0, 0) _ (Row.arr (cs := #[.int .i64 s.opn, .int .i64 s.view, .int .i64 s.under, .int .u64 (s.parent : Int), .int .u64 (s.sum : Int)]) hd) Tryd.underlying26 rfl HZS.out ?_)
    | ((with_reducible show wpList _ _ _ ({ dst := some 45, op := _, type := _, pos := _, after := _, guard := _ } :: _) _ _); refine wpl_eqe2 rfl e e true (.tmp 43) (.tmp 44) _ rfl rfl rfl (hid (by simp)) ?_)
    | ((with_reducible show wpList _ _ _ ({ dst := some 59, op := _, type := _, pos := _, after := _, guard := _ } :: _) _ _); refine wpl_eqs rfl s s true (.tmp 57) (.tmp 58) _ rfl rfl rfl (hid (by simp)) ?_))
  go_ret
  exact ⟨rfl, hbe⟩
theorem reads_law12 (p : ByteArray) (w : World) (hf : Fd w) : Calls Tryd.prog 4 #[.string p] w (Yes w) := by
  have HAW := hid (fun W (hW : Fd W) => awake12_any W hW)
  have HLp := hid (fun W => longr_any p W)
  by_cases h : 5000 < (p.size : Int)
  · rw [decide_eq_true h] at HLp
    exact reads_N p w hf HAW HLp
  · rw [decide_eq_false h] at HLp
    exact reads_Y p (entryS (sb p)).1 (stubT (sb p)).1 _ _ _ _ w hf HAW HLp (hid fun W hW => entryS_any p W hW) (hid fun W => rentry_any p W) (hid fun W => stubT_any p W) (hid fun W => rstubT_any p W)
set_option maxHeartbeats 2000000 in
theorem judges_N1 (p h : ByteArray) (n : Int) (w : World) (hf : Fd w) (HAW : Hid (∀ W, Fd W → Calls Tryd.prog 10 #[] W (Yes W)))
    (HLp : Hid (∀ W, Calls Tryd.prog 11 #[.string p] W fun x w' => x = .returned (.bool true) ∧ W = w')) :
    Calls Tryd.prog 5 #[.string p, .string h, .int .i64 n] w (Yes w) := by
  have HZE := hid esize
  have HZS := hid stsize
  have HFd := hid hf
  have hbe := Below.refl w.heap.size w
  clear hf
  go_enter Tryd.func5, Tryd.ntmps5
  go_wp2_with (first
    | (go_at_call 10; refine (HAW.out _ (HFd.out.below hbe HFd.out.1)).mono ?_; rintro x1 w1 ⟨rfl, hbq⟩; replace hbe := hbe.trans (hbq.mono hbe.size); clear hbq)
    | (go_at_call_of 11 (Value.string p); refine (HLp.out _).mono ?_; rintro x1 wq ⟨rfl, rfl⟩))
  go_ret
  exact ⟨rfl, hbe⟩
set_option maxHeartbeats 2000000 in
theorem judges_N2 (p h : ByteArray) (n : Int) (w : World) (hf : Fd w) (HAW : Hid (∀ W, Fd W → Calls Tryd.prog 10 #[] W (Yes W)))
    (HLp : Hid (∀ W, Calls Tryd.prog 11 #[.string p] W fun x w' => x = .returned (.bool false) ∧ W = w'))
    (HLh : Hid (∀ W, Calls Tryd.prog 11 #[.string h] W fun x w' => x = .returned (.bool true) ∧ W = w')) :
    Calls Tryd.prog 5 #[.string p, .string h, .int .i64 n] w (Yes w) := by
  have HZE := hid esize
  have HZS := hid stsize
  have HFd := hid hf
  have hbe := Below.refl w.heap.size w
  clear hf
  go_enter Tryd.func5, Tryd.ntmps5
  go_wp2_with (first
    | (go_at_call 10; refine (HAW.out _ (HFd.out.below hbe HFd.out.1)).mono ?_; rintro x1 w1 ⟨rfl, hbq⟩; replace hbe := hbe.trans (hbq.mono hbe.size); clear hbq)
    | (go_at_call 11; refine (HLp.out _).mono ?_; rintro x1 wq ⟨rfl, rfl⟩; clear HLp)
    | (go_at_call 11; refine (HLh.out _).mono ?_; rintro x1 wq ⟨rfl, rfl⟩; clear HLh))
  go_ret
  exact ⟨rfl, hbe⟩
set_option maxHeartbeats 2000000 in
theorem judges_Y (p h : ByteArray) (n : Int) (i : It) (w : World) (hf : Fd w) (HAW : Hid (∀ W, Fd W → Calls Tryd.prog 10 #[] W (Yes W)))
    (HLp : Hid (∀ W, Calls Tryd.prog 11 #[.string p] W fun x w' => x = .returned (.bool false) ∧ W = w'))
    (HLh : Hid (∀ W, Calls Tryd.prog 11 #[.string h] W fun x w' => x = .returned (.bool false) ∧ W = w'))
    (HJ : Hid (∀ W, Fd W → Calls Tryd.prog 24 #[.string p, .string h, .int .i64 n] W (VE W (.agg i.cells))))
    (HK : Hid (∀ W, Calls Tryd.prog 25 #[.string p, .string h, .int .i64 n] W (VE W (.agg i.cells)))) :
    Calls Tryd.prog 5 #[.string p, .string h, .int .i64 n] w (Yes w) := by
  have HZE := hid esize
  have HZS := hid stsize
  have HFd := hid hf
  have hbe := Below.refl w.heap.size w
  clear hf
  go_enter Tryd.func5, Tryd.ntmps5
  go_wp2_with (first
    | (go_at_call 10; refine (HAW.out _ (HFd.out.below hbe HFd.out.1)).mono ?_; rintro x1 w1 ⟨rfl, hbq⟩; replace hbe := hbe.trans (hbq.mono hbe.size); clear hbq)
    | (go_at_call 11; refine (HLp.out _).mono ?_; rintro x1 wq ⟨rfl, rfl⟩; clear HLp)
    | (go_at_call 11; refine (HLh.out _).mono ?_; rintro x1 wq ⟨rfl, rfl⟩; clear HLh)
    | (go_at_call 24; refine (HJ.out _ (HFd.out.below hbe HFd.out.1)).mono ?_; rintro x1 wa ⟨rfl, hbq⟩; replace hbe := hbe.trans (hbq.mono hbe.size); clear hbq)
    | (go_at_call 25; refine (HK.out _).mono ?_; rintro x1 wb ⟨rfl, hbq⟩; replace hbe := hbe.trans (hbq.mono hbe.size); clear hbq)
    | ((with_reducible show wpList _ _ _ ({ dst := some 23, op := _, type := _, pos := _, after := _, guard := _ } :: _) _ _); refine wpl_eqi rfl i i true (.tmp 18) (.tmp 22) _ rfl rfl rfl (hid (.inl ⟨rfl, rfl⟩)) ?_))
  go_ret
  exact ⟨rfl, hbe⟩
theorem judges_law12 (p h : ByteArray) (n : Int) (w : World) (hf : Fd w) : Calls Tryd.prog 5 #[.string p, .string h, .int .i64 n] w (Yes w) := by
  have HAW := hid (fun W (hW : Fd W) => awake12_any W hW)
  have HLp := hid (fun W => longr_any p W)
  have HLh := hid (fun W => longr_any h W)
  by_cases h1 : 5000 < (p.size : Int)
  · rw [decide_eq_true h1] at HLp
    exact judges_N1 p h n w hf HAW HLp
  · rw [decide_eq_false h1] at HLp
    by_cases h2 : 5000 < (h.size : Int)
    · rw [decide_eq_true h2] at HLh
      exact judges_N2 p h n w hf HAW HLp HLh
    · rw [decide_eq_false h2] at HLh
      exact judges_Y p h n (judgeS (sb p) (sb h) n) w hf HAW HLp HLh (hid fun W hW => judge_any p h n W hW) (hid fun W => rjudge_any p h n W)
end Go.Proofs.YtdcoiehhnllhmaaDoor
