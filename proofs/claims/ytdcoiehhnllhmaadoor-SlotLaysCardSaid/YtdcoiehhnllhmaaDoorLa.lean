/-
  The walk of SlotLays.
-/
import Derived.Test.YtdcoiehhnllhmaaDoorM20
namespace Go.Proofs.YtdcoiehhnllhmaaDoor
open Go.RowKit
set_option maxRecDepth 10000

theorem long12_any (s : ByteArray) (w : World) : Calls Tryd.prog 11 #[.string s] w fun e w' => e = .returned (.bool (decide (5000 < (s.size : Int)))) ∧ w = w' := by
  go_enter Tryd.func11, Tryd.ntmps11
  go_wp2
  go_ret
  exact ⟨rfl, rfl⟩
set_option maxHeartbeats 1000000 in
theorem lays_N1 (old : ByteArray) (e : En) (s : St) (w : World) (hf : Fd w) (HAW : Hid (∀ W, Fd W → Calls Tryd.prog 10 #[] W (Yes W))) (HLb : Hid (∀ W, Calls Tryd.prog 11 #[.string e.body] W fun x w' => x = .returned (.bool true) ∧ W = w')) :
    Calls Tryd.prog 3 #[.string old, .agg #[.int .i64 e.view, .int .i64 e.opn, .int .i64 e.under, .int .u64 (e.parent : Int), .int .i64 e.client, .int .i64 e.session, .int .i64 e.request, .int .i64 e.oper, .string e.body], .agg #[.int .i64 s.opn, .int .i64 s.view, .int .i64 s.under, .int .u64 (s.parent : Int), .int .u64 (s.sum : Int)]] w (Yes w) := by
  have HFd := hid hf
  clear hf
  go_enter Tryd.func3, Tryd.ntmps3
  go_wp2_with (first
    | (go_at_call 10; refine (HAW.out _ (HFd.out.below (((Below.refl w.heap.size w).alloc (Nat.le_refl _) _).alloc (by simp) _) HFd.out.1)).mono ?_; rintro x1 w1 ⟨rfl, hbq⟩; have hre := ((Row.new w 24 #[.int .i64 e.view, .int .i64 e.opn, .int .i64 e.under, .int .u64 (e.parent : Int), .int .i64 e.client, .int .i64 e.session, .int .i64 e.request, .int .i64 e.oper, .string e.body]).alloc (.cells #[.int .i64 s.opn, .int .i64 s.view, .int .i64 s.under, .int .u64 (s.parent : Int), .int .u64 (s.sum : Int)] 26)).below hbq (by simp; omega); have hrs : Row w1 (w.heap.size + 1) 26 (Array.toList #[.int .i64 s.opn, .int .i64 s.view, .int .i64 s.under, .int .u64 (s.parent : Int), .int .u64 (s.sum : Int)]) := Row.below (B := w.heap.size + 1 + 1) (alloc2_new _ _ _) (hbq.mono (by simp)) (by omega); have hbe := (((Below.refl w.heap.size w).alloc (Nat.le_refl _) (.cells #[.int .i64 e.view, .int .i64 e.opn, .int .i64 e.under, .int .u64 (e.parent : Int), .int .i64 e.client, .int .i64 e.session, .int .i64 e.request, .int .i64 e.oper, .string e.body] 24)).alloc (by simp) (.cells #[.int .i64 s.opn, .int .i64 s.view, .int .i64 s.under, .int .u64 (s.parent : Int), .int .u64 (s.sum : Int)] 26)).trans (hbq.mono (by simp; omega)); have he8 := hre.at_ 8 _ rfl; clear hbq)
    | (go_at_call_of 11 (Value.string e.body); refine (HLb.out _).mono ?_; rintro x1 wq ⟨rfl, rfl⟩))
  go_ret
  exact ⟨rfl, hbe⟩
set_option maxHeartbeats 1000000 in
theorem lays_N2 (old : ByteArray) (e : En) (s : St) (w : World) (hf : Fd w) (HAW : Hid (∀ W, Fd W → Calls Tryd.prog 10 #[] W (Yes W))) (HLb : Hid (∀ W, Calls Tryd.prog 11 #[.string e.body] W fun x w' => x = .returned (.bool false) ∧ W = w')) (HLo : Hid (∀ W, Calls Tryd.prog 11 #[.string old] W fun x w' => x = .returned (.bool true) ∧ W = w')) :
    Calls Tryd.prog 3 #[.string old, .agg #[.int .i64 e.view, .int .i64 e.opn, .int .i64 e.under, .int .u64 (e.parent : Int), .int .i64 e.client, .int .i64 e.session, .int .i64 e.request, .int .i64 e.oper, .string e.body], .agg #[.int .i64 s.opn, .int .i64 s.view, .int .i64 s.under, .int .u64 (s.parent : Int), .int .u64 (s.sum : Int)]] w (Yes w) := by
  have HFd := hid hf
  clear hf
  go_enter Tryd.func3, Tryd.ntmps3
  go_wp2_with (first
    | (go_at_call 10; refine (HAW.out _ (HFd.out.below (((Below.refl w.heap.size w).alloc (Nat.le_refl _) _).alloc (by simp) _) HFd.out.1)).mono ?_; rintro x1 w1 ⟨rfl, hbq⟩; have hre := ((Row.new w 24 #[.int .i64 e.view, .int .i64 e.opn, .int .i64 e.under, .int .u64 (e.parent : Int), .int .i64 e.client, .int .i64 e.session, .int .i64 e.request, .int .i64 e.oper, .string e.body]).alloc (.cells #[.int .i64 s.opn, .int .i64 s.view, .int .i64 s.under, .int .u64 (s.parent : Int), .int .u64 (s.sum : Int)] 26)).below hbq (by simp; omega); have hrs : Row w1 (w.heap.size + 1) 26 (Array.toList #[.int .i64 s.opn, .int .i64 s.view, .int .i64 s.under, .int .u64 (s.parent : Int), .int .u64 (s.sum : Int)]) := Row.below (B := w.heap.size + 1 + 1) (alloc2_new _ _ _) (hbq.mono (by simp)) (by omega); have hbe := (((Below.refl w.heap.size w).alloc (Nat.le_refl _) (.cells #[.int .i64 e.view, .int .i64 e.opn, .int .i64 e.under, .int .u64 (e.parent : Int), .int .i64 e.client, .int .i64 e.session, .int .i64 e.request, .int .i64 e.oper, .string e.body] 24)).alloc (by simp) (.cells #[.int .i64 s.opn, .int .i64 s.view, .int .i64 s.under, .int .u64 (s.parent : Int), .int .u64 (s.sum : Int)] 26)).trans (hbq.mono (by simp; omega)); have he8 := hre.at_ 8 _ rfl; clear hbq)
    | (go_at_call_of 11 (Value.string e.body); refine (HLb.out _).mono ?_; rintro x1 wq ⟨rfl, rfl⟩)
    | (go_at_call_of 11 (Value.string old); refine (HLo.out _).mono ?_; rintro x1 wq ⟨rfl, rfl⟩))
  go_ret
  exact ⟨rfl, hbe⟩
set_option maxHeartbeats 2000000 in
theorem lays_00 (old P H V : ByteArray) (e x : En) (s t y : St) (b1 b2 c1 c2 : Bool) (w : World) (hf : Fd w) (HAW : Hid (∀ W, Fd W → Calls Tryd.prog 10 #[] W (Yes W)))
    (HLb : Hid (∀ W, Calls Tryd.prog 11 #[.string e.body] W fun x w' => x = .returned (.bool false) ∧ W = w'))
    (HLo : Hid (∀ W, Calls Tryd.prog 11 #[.string old] W fun x w' => x = .returned (.bool false) ∧ W = w'))
    (HP : Hid (∀ W, Fd W → Calls Tryd.prog 12 #[.string old, .agg #[.int .i64 e.view, .int .i64 e.opn, .int .i64 e.under, .int .u64 (e.parent : Int), .int .i64 e.client, .int .i64 e.session, .int .i64 e.request, .int .i64 e.oper, .string e.body]] W fun y w' => y = .returned (.tuple #[.string P, .int .i64 0]) ∧ Below W.heap.size W w'))
    (HQ : Hid (∀ W, Calls Tryd.prog 13 #[.string old, .agg #[.int .i64 e.view, .int .i64 e.opn, .int .i64 e.under, .int .u64 (e.parent : Int), .int .i64 e.client, .int .i64 e.session, .int .i64 e.request, .int .i64 e.oper, .string e.body]] W fun y w' => y = .returned (.tuple #[.string P, .int .i64 0]) ∧ Below W.heap.size W w'))
    (HH : Hid (∀ W, Calls Tryd.prog 14 #[.string old, .agg #[.int .i64 s.opn, .int .i64 s.view, .int .i64 s.under, .int .u64 (s.parent : Int), .int .u64 (s.sum : Int)]] W fun y w' => y = .returned (.tuple #[.string H, .int .i64 0]) ∧ Below W.heap.size W w'))
    (HK : Hid (∀ W, Calls Tryd.prog 15 #[.string old, .agg #[.int .i64 s.opn, .int .i64 s.view, .int .i64 s.under, .int .u64 (s.parent : Int), .int .u64 (s.sum : Int)]] W fun y w' => y = .returned (.tuple #[.string H, .int .i64 0]) ∧ Below W.heap.size W w'))
    (HSt : Hid (∀ W, Fd W → Calls Tryd.prog 16 #[.agg #[.int .i64 e.view, .int .i64 e.opn, .int .i64 e.under, .int .u64 (e.parent : Int), .int .i64 e.client, .int .i64 e.session, .int .i64 e.request, .int .i64 e.oper, .string e.body]] W (VE W (.agg #[.int .i64 t.opn, .int .i64 t.view, .int .i64 t.under, .int .u64 (t.parent : Int), .int .u64 (t.sum : Int)]))))
    (HSr : Hid (∀ W, Calls Tryd.prog 17 #[.agg #[.int .i64 e.view, .int .i64 e.opn, .int .i64 e.under, .int .u64 (e.parent : Int), .int .i64 e.client, .int .i64 e.session, .int .i64 e.request, .int .i64 e.oper, .string e.body]] W (VE W (.agg #[.int .i64 t.opn, .int .i64 t.view, .int .i64 t.under, .int .u64 (t.parent : Int), .int .u64 (t.sum : Int)]))))
    (HV : Hid (∀ W, Calls Tryd.prog 18 #[.string old] W fun y w' => y = .returned (.string V) ∧ Below W.heap.size W w'))
    (HVr : Hid (∀ W, Calls Tryd.prog 19 #[.string old] W fun y w' => y = .returned (.string V) ∧ Below W.heap.size W w'))
    (HEn : Hid (∀ W, Fd W → Calls Tryd.prog 20 #[.string P] W (LQ W #[.int .i64 e.view, .int .i64 e.opn, .int .i64 e.under, .int .u64 (e.parent : Int), .int .i64 e.client, .int .i64 e.session, .int .i64 e.request, .int .i64 e.oper, .string e.body] true true)))
    (HSb : Hid (∀ W, Calls Tryd.prog 21 #[.string H] W (LQ W #[.int .i64 s.opn, .int .i64 s.view, .int .i64 s.under, .int .u64 (s.parent : Int), .int .u64 (s.sum : Int)] true true)))
    (HEv : Hid (∀ W, Fd W → Calls Tryd.prog 20 #[.string V] W (LQ W #[.int .i64 0, .int .i64 0, .int .i64 0, .int .u64 0, .int .i64 0, .int .i64 0, .int .i64 0, .int .i64 0, .string ⟨#[]⟩] false true))) :
    Calls Tryd.prog 3 #[.string old, .agg #[.int .i64 e.view, .int .i64 e.opn, .int .i64 e.under, .int .u64 (e.parent : Int), .int .i64 e.client, .int .i64 e.session, .int .i64 e.request, .int .i64 e.oper, .string e.body], .agg #[.int .i64 s.opn, .int .i64 s.view, .int .i64 s.under, .int .u64 (s.parent : Int), .int .u64 (s.sum : Int)]] w (Yes w) := by
  have qq : True := (fun _ _ _ _ _ _ => trivial) x y b1 b2 c1 c2
  clear qq
  have HZE := hid esize
  have HZS := hid stsize
  have HFd := hid hf
  clear hf
  go_enter Tryd.func3, Tryd.ntmps3
  go_wp2_with (first
    | (go_at_call 10; refine (HAW.out _ (HFd.out.below (((Below.refl w.heap.size w).alloc (Nat.le_refl _) _).alloc (by simp) _) HFd.out.1)).mono ?_; rintro x1 w1 ⟨rfl, hbq⟩; have hre := ((Row.new w 24 #[.int .i64 e.view, .int .i64 e.opn, .int .i64 e.under, .int .u64 (e.parent : Int), .int .i64 e.client, .int .i64 e.session, .int .i64 e.request, .int .i64 e.oper, .string e.body]).alloc (.cells #[.int .i64 s.opn, .int .i64 s.view, .int .i64 s.under, .int .u64 (s.parent : Int), .int .u64 (s.sum : Int)] 26)).below hbq (by simp; omega); have hrs : Row w1 (w.heap.size + 1) 26 (Array.toList #[.int .i64 s.opn, .int .i64 s.view, .int .i64 s.under, .int .u64 (s.parent : Int), .int .u64 (s.sum : Int)]) := Row.below (B := w.heap.size + 1 + 1) (alloc2_new _ _ _) (hbq.mono (by simp)) (by omega); have hbe := (((Below.refl w.heap.size w).alloc (Nat.le_refl _) (.cells #[.int .i64 e.view, .int .i64 e.opn, .int .i64 e.under, .int .u64 (e.parent : Int), .int .i64 e.client, .int .i64 e.session, .int .i64 e.request, .int .i64 e.oper, .string e.body] 24)).alloc (by simp) (.cells #[.int .i64 s.opn, .int .i64 s.view, .int .i64 s.under, .int .u64 (s.parent : Int), .int .u64 (s.sum : Int)] 26)).trans (hbq.mono (by simp; omega)); have he8 := hre.at_ 8 _ rfl; clear hbq)
    | (go_at_call_of 11 (Value.string e.body); refine (HLb.out _).mono ?_; rintro x1 wq ⟨rfl, rfl⟩)
    | (go_at_call_of 11 (Value.string old); refine (HLo.out _).mono ?_; rintro x1 wq ⟨rfl, rfl⟩)
    | ((with_reducible show wpList _ _ _ ({ dst := _, op := .load 24 (.tmp 4), type := _, pos := _, after := _, guard := _ } :: _) _ _); refine wpl_load_want rfl 24 (.tmp 4) rfl w.heap.size rfl 24 #[.int .i64 e.view, .int .i64 e.opn, .int .i64 e.under, .int .u64 (e.parent : Int), .int .i64 e.client, .int .i64 e.session, .int .i64 e.request, .int .i64 e.oper, .string e.body] (0, 0) _ (Row.arr (cs := #[.int .i64 e.view, .int .i64 e.opn, .int .i64 e.under, .int .u64 (e.parent : Int), .int .i64 e.client, .int .i64 e.session, .int .i64 e.request, .int .i64 e.oper, .string e.body]) hre) Tryd.underlying24 rfl HZE.out ?_)
    | ((with_reducible show wpList _ _ _ ({ dst := _, op := .load 26 (.tmp 5), type := _, pos := _, after := _, guard := _ } :: _) _ _); refine wpl_load_want rfl 26 (.tmp 5) rfl (w.heap.size + 1) rfl 26 #[.int .i64 s.opn, .int .i64 s.view, .int .i64 s.under, .int .u64 (s.parent : Int), .int .u64 (s.sum : Int)] (0, 0) _ (Row.arr (cs := #[.int .i64 s.opn, .int .i64 s.view, .int .i64 s.under, .int .u64 (s.parent : Int), .int .u64 (s.sum : Int)]) hrs) Tryd.underlying26 rfl HZS.out ?_)
    | (go_at_call 12; refine (HP.out _ (HFd.out.below hbe HFd.out.1)).mono ?_; rintro x1 wq ⟨rfl, hbq⟩; replace hre := hre.below hbq hre.lt; replace hrs := hrs.below hbq hrs.lt; replace hbe := hbe.trans (hbq.mono hbe.size); clear hbq)
    | (go_at_call 13; refine (HQ.out _).mono ?_; rintro x1 wq ⟨rfl, hbq⟩; replace hre := hre.below hbq hre.lt; replace hrs := hrs.below hbq hrs.lt; replace hbe := hbe.trans (hbq.mono hbe.size); clear hbq)
    | (go_at_call 14; refine (HH.out _).mono ?_; rintro x1 wq ⟨rfl, hbq⟩; replace hre := hre.below hbq hre.lt; replace hrs := hrs.below hbq hrs.lt; replace hbe := hbe.trans (hbq.mono hbe.size); clear hbq)
    | (go_at_call 15; refine (HK.out _).mono ?_; rintro x1 wq ⟨rfl, hbq⟩; replace hre := hre.below hbq hre.lt; replace hrs := hrs.below hbq hrs.lt; replace hbe := hbe.trans (hbq.mono hbe.size); clear hbq))
  refine name_wpS (fun w6 hw6 => ?_)
  rw [← hw6] at hbe hre hrs
  clear hw6 he8
  have HBE := hid hbe
  have HEF := hid hre
  have HSF := hid hrs
  clear hbe hre hrs
  refine wp_region_held_drew (S := fun W => Below w6.heap.size w6 W) (by kernel_rfl) ((Below.refl _ _).drew) (fun hH => ?_)
  refine wpAnyH_take (i := 0) (v := .string P) rfl (by kernel_rfl) (by kernel_rfl) (by kernel_rfl) (fun _ _ _ h => h) (Or.inl ⟨by rfl, fun w' hw' => by clear hw'; go_simp⟩) hH ?_
  simp only [Act.put]
  refine wpAnyH_take (i := 1) (v := .string P) rfl (by kernel_rfl) (by kernel_rfl) (by kernel_rfl) (fun _ _ _ h => h) (Or.inl ⟨by rfl, fun w' hw' => by clear hw'; go_simp⟩) hH ?_
  simp only [Act.put]
  refine wpAnyH_take (i := 2) (v := .bool false) rfl (by kernel_rfl) (by kernel_rfl) (by kernel_rfl) (fun _ _ _ h => h) (Or.inl ⟨by rfl, fun w' hw' => by clear hw'; go_simp⟩) hH ?_
  simp only [Act.put]
  refine wpAnyH_take (i := 3) (v := .bool false) rfl (by kernel_rfl) (by kernel_rfl) (by kernel_rfl) (fun _ _ _ h => h) (Or.inl ⟨by rfl, fun w' hw' => by clear hw'; go_simp⟩) hH ?_
  simp only [Act.put]
  refine wpAnyH_take (i := 4) (v := .int .i64 0) rfl (by kernel_rfl) (by kernel_rfl) (by kernel_rfl) (fun _ _ _ h => h) (Or.inl ⟨by kernel_rfl, fun w' hw' => by clear hw'; go_simp⟩) hH ?_
  simp only [Act.put]
  refine wpAnyH_take (i := 5) (v := .int .i64 0) rfl (by kernel_rfl) (by kernel_rfl) (by kernel_rfl) (fun _ _ _ h => h) (Or.inl ⟨by kernel_rfl, fun w' hw' => by clear hw'; go_simp⟩) hH ?_
  simp only [Act.put]
  refine wpAnyH_take (i := 6) (v := .bool false) rfl (by kernel_rfl) (by kernel_rfl) (by kernel_rfl) (fun _ _ _ h => h) (Or.inl ⟨by kernel_rfl, fun w' hw' => by clear hw'; go_simp⟩) hH ?_
  simp only [Act.put]
  refine wpAnyH_take (i := 7) (v := .bool false) rfl (by kernel_rfl) (by kernel_rfl) (by kernel_rfl) (fun _ _ _ h => h) (Or.inl ⟨by rfl, fun w' hw' => by clear hw'; go_simp⟩) hH ?_
  simp only [Act.put]
  refine wpAnyH_take (i := 8) (v := .bool false) rfl (by kernel_rfl) (by kernel_rfl) (by kernel_rfl) (fun _ _ _ h => h) (Or.inl ⟨by rfl, fun w' hw' => by clear hw'; go_simp⟩) hH ?_
  simp only [Act.put]
  refine wpAnyH_take (i := 9) (v := .string H) rfl (by kernel_rfl) (by kernel_rfl) (by kernel_rfl) (fun _ _ _ h => h) (Or.inl ⟨by kernel_rfl, fun w' hw' => by clear hw'; go_simp⟩) hH ?_
  simp only [Act.put]
  refine wpAnyH_take (i := 10) (v := .string H) rfl (by kernel_rfl) (by kernel_rfl) (by kernel_rfl) (fun _ _ _ h => h) (Or.inl ⟨by kernel_rfl, fun w' hw' => by clear hw'; go_simp⟩) hH ?_
  simp only [Act.put]
  refine wpAnyH_take (i := 11) (v := .bool false) rfl (by kernel_rfl) (by kernel_rfl) (by kernel_rfl) (fun _ _ _ h => h) (Or.inl ⟨by kernel_rfl, fun w' hw' => by clear hw'; go_simp⟩) hH ?_
  simp only [Act.put]
  refine wpAnyH_take (i := 12) (v := .bool false) rfl (by kernel_rfl) (by kernel_rfl) (by kernel_rfl) (fun _ _ _ h => h) (Or.inl ⟨by rfl, fun w' hw' => by clear hw'; go_simp⟩) hH ?_
  simp only [Act.put]
  refine wpAnyH_take (i := 13) (v := .bool false) rfl (by kernel_rfl) (by kernel_rfl) (by kernel_rfl) (fun _ _ _ h => h) (Or.inl ⟨by rfl, fun w' hw' => by clear hw'; go_simp⟩) hH ?_
  simp only [Act.put]
  refine wpAnyH_take (i := 14) (v := .int .i64 0) rfl (by kernel_rfl) (by kernel_rfl) (by kernel_rfl) (fun _ _ _ h => h) (Or.inl ⟨by kernel_rfl, fun w' hw' => by clear hw'; go_simp⟩) hH ?_
  simp only [Act.put]
  refine wpAnyH_take (i := 15) (v := .int .i64 0) rfl (by kernel_rfl) (by kernel_rfl) (by kernel_rfl) (fun _ _ _ h => h) (Or.inl ⟨by kernel_rfl, fun w' hw' => by clear hw'; go_simp⟩) hH ?_
  simp only [Act.put]
  refine wpAnyH_take (i := 16) (v := .bool false) rfl (by kernel_rfl) (by kernel_rfl) (by kernel_rfl) (fun _ _ _ h => h) (Or.inl ⟨by kernel_rfl, fun w' hw' => by clear hw'; go_simp⟩) hH ?_
  simp only [Act.put]
  refine wpAnyH_take (i := 17) (v := .bool false) rfl (by kernel_rfl) (by kernel_rfl) (by kernel_rfl) (fun _ _ _ h => h) (Or.inl ⟨by rfl, fun w' hw' => by clear hw'; go_simp⟩) hH ?_
  simp only [Act.put]
  refine wpAnyH_take (i := 18) (v := .bool false) rfl (by kernel_rfl) (by kernel_rfl) (by kernel_rfl) (fun _ _ _ h => h) (Or.inl ⟨by rfl, fun w' hw' => by clear hw'; go_simp⟩) hH ?_
  simp only [Act.put]
  refine wpAnyH_take (i := 19) (v := .agg #[.int .i64 e.view, .int .i64 e.opn, .int .i64 e.under, .int .u64 (e.parent : Int), .int .i64 e.client, .int .i64 e.session, .int .i64 e.request, .int .i64 e.oper, .string e.body]) rfl (by kernel_rfl) (by kernel_rfl) (by kernel_rfl) (fun _ _ _ h => h) ?_ hH ?_
  · refine yieldsIf_load_mid ?_ 24 (.tmp 4) ?_ w.heap.size 0 ?_ (Array.toList #[.int .i64 e.view, .int .i64 e.opn, .int .i64 e.under, .int .u64 (e.parent : Int), .int .i64 e.client, .int .i64 e.session, .int .i64 e.request, .int .i64 e.oper, .string e.body]) _ (fun W hW => Row.range (HEF.out.below hW HEF.out.lt)) Tryd.underlying24 rfl (by exact HZE.out)
    all_goals kernel_rfl
  simp only [Act.put]
  refine wpAnyH_take (i := 21) (v := .agg #[.int .i64 e.view, .int .i64 e.opn, .int .i64 e.under, .int .u64 (e.parent : Int), .int .i64 e.client, .int .i64 e.session, .int .i64 e.request, .int .i64 e.oper, .string e.body]) rfl (by kernel_rfl) (by kernel_rfl) (by kernel_rfl) (fun _ _ _ h => h) ?_ hH ?_
  · refine yieldsIf_load_mid ?_ 24 (.tmp 4) ?_ w.heap.size 0 ?_ (Array.toList #[.int .i64 e.view, .int .i64 e.opn, .int .i64 e.under, .int .u64 (e.parent : Int), .int .i64 e.client, .int .i64 e.session, .int .i64 e.request, .int .i64 e.oper, .string e.body]) _ (fun W hW => Row.range (HEF.out.below hW HEF.out.lt)) Tryd.underlying24 rfl (by exact HZE.out)
    all_goals kernel_rfl
  simp only [Act.put]
  refine wpAnyH_ready (rs := [20]) (by kernel_rfl) (by simp) ?_
  refine AllReadyH.cons rfl (fun K hK => ?_) AllReadyH.nil
  rw [if_pos (by kernel_rfl)]
  go_simp
  go_at_call 16
  refine (HSt.out _ (HFd.out.below (HBE.out.trans (hH.mono HBE.out.size)) HFd.out.1)).mono ?_
  rintro x1 w7 ⟨rfl, hb7⟩
  go_wp2_with fail
  refine hK.out _ _ (hH.trans (hb7.mono hH.size)) (fun hH => ?_)
  clear hK K
  try simp only [Act.put]
  refine wpAnyH_ready (rs := [22]) (by kernel_rfl) (by simp) ?_
  refine AllReadyH.cons rfl (fun K hK => ?_) AllReadyH.nil
  rw [if_pos (by kernel_rfl)]
  go_simp
  go_at_call 17
  refine (HSr.out _).mono ?_
  rintro x1 w8 ⟨rfl, hb8⟩
  go_wp2_with fail
  refine hK.out _ _ (hH.trans (hb8.mono hH.size)) (fun hH => ?_)
  clear hK K
  try simp only [Act.put]
  refine wpAnyH_take (i := 23) (v := .bool (!true)) rfl (by kernel_rfl) (by kernel_rfl) (by kernel_rfl) (fun _ _ _ h => h) (yields_nes (by kernel_rfl) t t true (hid (by simp)) (.tmp 77) (.tmp 79) _ rfl (by kernel_rfl) (by kernel_rfl)) hH ?_
  simp only [Act.put]
  refine wpAnyH_take (i := 24) (v := .bool false) rfl (by kernel_rfl) (by kernel_rfl) (by kernel_rfl) (fun _ _ _ h => h) (Or.inl ⟨by kernel_rfl, fun w' _ => by kernel_rfl⟩) hH ?_
  simp only [Act.put]
  refine wpAnyH_take (i := 25) (v := .bool false) rfl (by kernel_rfl) (by kernel_rfl) (by kernel_rfl) (fun _ _ _ h => h) (Or.inl ⟨by kernel_rfl, fun w' _ => by kernel_rfl⟩) hH ?_
  simp only [Act.put]
  refine wpAnyH_take (i := 26) (v := .string old) rfl (by kernel_rfl) (by kernel_rfl) (by kernel_rfl) (fun _ _ _ h => h) (Or.inl ⟨by kernel_rfl, fun w' _ => by kernel_rfl⟩) hH ?_
  simp only [Act.put]
  refine wpAnyH_take (i := 28) (v := .string old) rfl (by kernel_rfl) (by kernel_rfl) (by kernel_rfl) (fun _ _ _ h => h) (Or.inl ⟨by kernel_rfl, fun w' _ => by kernel_rfl⟩) hH ?_
  simp only [Act.put]
  refine wpAnyH_ready (rs := [27]) (by kernel_rfl) (by simp) ?_
  refine AllReadyH.cons rfl (fun K hK => ?_) AllReadyH.nil
  rw [if_pos (by kernel_rfl)]
  go_simp
  go_at_call 18
  refine (HV.out _).mono ?_
  rintro x1 w9 ⟨rfl, hb9⟩
  go_wp2_with fail
  refine hK.out _ _ (hH.trans (hb9.mono hH.size)) (fun hH => ?_)
  clear hK K
  try simp only [Act.put]
  refine wpAnyH_ready (rs := [29]) (by kernel_rfl) (by simp) ?_
  refine AllReadyH.cons rfl (fun K hK => ?_) AllReadyH.nil
  rw [if_pos (by kernel_rfl)]
  go_simp
  go_at_call 19
  refine (HVr.out _).mono ?_
  rintro x1 w10 ⟨rfl, hb10⟩
  go_wp2_with fail
  refine hK.out _ _ (hH.trans (hb10.mono hH.size)) (fun hH => ?_)
  clear hK K
  try simp only [Act.put]
  refine wpAnyH_take (i := 30) (v := .bool false) rfl (by kernel_rfl) (by kernel_rfl) (by kernel_rfl) (fun _ _ _ h => h) (Or.inl ⟨by kernel_rfl, fun w' hw' => by clear hw'; go_simp⟩) hH ?_
  simp only [Act.put]
  refine wpAnyH_take (i := 31) (v := .bool false) rfl (by kernel_rfl) (by kernel_rfl) (by kernel_rfl) (fun _ _ _ h => h) (Or.inl ⟨by kernel_rfl, fun w' _ => by kernel_rfl⟩) hH ?_
  simp only [Act.put]
  refine wpAnyH_done (by kernel_rfl) ?_ _
  try simp only [Act.put]
  have hbe := HBE.out.trans (hH.mono HBE.out.size)
  have hre := HEF.out.below hH HEF.out.lt
  have hrs := HSF.out.below hH HSF.out.lt
  clear hb7 hb8 hb9 hb10 hH
  go_wp2_with (first
    | (go_at_call_of 20 (Value.string P); refine (HEn.out _ (HFd.out.below hbe HFd.out.1)).mono ?_; rintro x1 wa ⟨rfl, hbq⟩; replace hre := hre.below hbq hre.lt; replace hrs := hrs.below hbq hrs.lt; replace hbe := hbe.trans (hbq.mono hbe.size); clear hbq)
    | ((with_reducible show wpList _ _ _ ({ dst := none, op := .store _ (.tmp 15) (.tmp 92), type := _, pos := _, after := _, guard := _ } :: _) _ _); refine wpl_store_st rfl (.tmp 15) (.tmp 92) rfl (n := 9) HZE.out wa.heap.size #[.int .i64 0, .int .i64 0, .int .i64 0, .int .u64 0, .int .i64 0, .int .i64 0, .int .i64 0, .int .i64 0, .string ⟨#[]⟩] #[.int .i64 e.view, .int .i64 e.opn, .int .i64 e.under, .int .u64 (e.parent : Int), .int .i64 e.client, .int .i64 e.session, .int .i64 e.request, .int .i64 e.oper, .string e.body] rfl rfl (Row.new _ _ _) ?_ (hid rfl) (hid rfl) (hid (ecells_one _)); intro wz hrx HBa; replace hre := (hre.alloc (.cells #[.int .i64 0, .int .i64 0, .int .i64 0, .int .u64 0, .int .i64 0, .int .i64 0, .int .i64 0, .int .i64 0, .string ⟨#[]⟩] 24)).grown HBa (by have := hre.lt; intro e; have := Option.some.inj e; omega); replace hrs := (hrs.alloc (.cells #[.int .i64 0, .int .i64 0, .int .i64 0, .int .u64 0, .int .i64 0, .int .i64 0, .int .i64 0, .int .i64 0, .string ⟨#[]⟩] 24)).grown HBa (by have := hrs.lt; intro e; have := Option.some.inj e; omega); replace hbe := (hbe.alloc hbe.size (.cells #[.int .i64 0, .int .i64 0, .int .i64 0, .int .u64 0, .int .i64 0, .int .i64 0, .int .i64 0, .int .i64 0, .string ⟨#[]⟩] 24)).trans (below_grown HBa hbe.size (by have := hbe.size; simp; omega)))
    | (go_at_call 21; refine (HSb.out _).mono ?_; rintro x1 wb ⟨rfl, hbq⟩; replace hre := hre.below hbq hre.lt; replace hrs := hrs.below hbq hrs.lt; replace hrx := hrx.below hbq hrx.lt; replace hbe := hbe.trans (hbq.mono hbe.size); clear hbq)
    | ((with_reducible show wpList _ _ _ ({ dst := none, op := .store _ (.tmp 18) (.tmp 98), type := _, pos := _, after := _, guard := _ } :: _) _ _); refine wpl_store_st rfl (.tmp 18) (.tmp 98) rfl (n := 5) HZS.out wb.heap.size #[.int .i64 0, .int .i64 0, .int .i64 0, .int .u64 0, .int .u64 0] #[.int .i64 s.opn, .int .i64 s.view, .int .i64 s.under, .int .u64 (s.parent : Int), .int .u64 (s.sum : Int)] rfl rfl (Row.new _ _ _) ?_ (hid rfl) (hid rfl) (hid (stcells_one _)); intro wz hry HBb; replace hre := (hre.alloc (.cells #[.int .i64 0, .int .i64 0, .int .i64 0, .int .u64 0, .int .u64 0] 26)).grown HBb (by have := hre.lt; intro e; have := Option.some.inj e; omega); replace hrs := (hrs.alloc (.cells #[.int .i64 0, .int .i64 0, .int .i64 0, .int .u64 0, .int .u64 0] 26)).grown HBb (by have := hrs.lt; intro e; have := Option.some.inj e; omega); replace hrx := (hrx.alloc (.cells #[.int .i64 0, .int .i64 0, .int .i64 0, .int .u64 0, .int .u64 0] 26)).grown HBb (by have := hrx.lt; intro e; have := Option.some.inj e; omega); replace hbe := (hbe.alloc hbe.size (.cells #[.int .i64 0, .int .i64 0, .int .i64 0, .int .u64 0, .int .u64 0] 26)).trans (below_grown HBb hbe.size (by have := hbe.size; simp; omega)))
    | ((with_reducible show wpList _ _ _ ({ dst := _, op := .load 24 (.tmp 15), type := _, pos := _, after := _, guard := _ } :: _) _ _); refine wpl_load_want rfl 24 (.tmp 15) rfl wa.heap.size rfl 24 #[.int .i64 e.view, .int .i64 e.opn, .int .i64 e.under, .int .u64 (e.parent : Int), .int .i64 e.client, .int .i64 e.session, .int .i64 e.request, .int .i64 e.oper, .string e.body] (0, 0) _ (Row.arr (cs := #[.int .i64 e.view, .int .i64 e.opn, .int .i64 e.under, .int .u64 (e.parent : Int), .int .i64 e.client, .int .i64 e.session, .int .i64 e.request, .int .i64 e.oper, .string e.body]) hrx) Tryd.underlying24 rfl HZE.out ?_)
    | ((with_reducible show wpList _ _ _ ({ dst := _, op := .load 24 (.tmp 4), type := _, pos := _, after := _, guard := _ } :: _) _ _); refine wpl_load_want rfl 24 (.tmp 4) rfl w.heap.size rfl 24 #[.int .i64 e.view, .int .i64 e.opn, .int .i64 e.under, .int .u64 (e.parent : Int), .int .i64 e.client, .int .i64 e.session, .int .i64 e.request, .int .i64 e.oper, .string e.body] (0, 0) _ (Row.arr (cs := #[.int .i64 e.view, .int .i64 e.opn, .int .i64 e.under, .int .u64 (e.parent : Int), .int .i64 e.client, .int .i64 e.session, .int .i64 e.request, .int .i64 e.oper, .string e.body]) hre) Tryd.underlying24 rfl HZE.out ?_)
    | ((with_reducible show wpList _ _ _ ({ dst := _, op := .load 26 (.tmp 18), type := _, pos := _, after := _, guard := _ } :: _) _ _); refine wpl_load_want rfl 26 (.tmp 18) rfl wb.heap.size rfl 26 #[.int .i64 s.opn, .int .i64 s.view, .int .i64 s.under, .int .u64 (s.parent : Int), .int .u64 (s.sum : Int)] (0, 0) _ (Row.arr (cs := #[.int .i64 s.opn, .int .i64 s.view, .int .i64 s.under, .int .u64 (s.parent : Int), .int .u64 (s.sum : Int)]) hry) Tryd.underlying26 rfl HZS.out ?_)
    | ((with_reducible show wpList _ _ _ ({ dst := _, op := .load 26 (.tmp 5), type := _, pos := _, after := _, guard := _ } :: _) _ _); refine wpl_load_want rfl 26 (.tmp 5) rfl (w.heap.size + 1) rfl 26 #[.int .i64 s.opn, .int .i64 s.view, .int .i64 s.under, .int .u64 (s.parent : Int), .int .u64 (s.sum : Int)] (0, 0) _ (Row.arr (cs := #[.int .i64 s.opn, .int .i64 s.view, .int .i64 s.under, .int .u64 (s.parent : Int), .int .u64 (s.sum : Int)]) hrs) Tryd.underlying26 rfl HZS.out ?_)
    | ((with_reducible show wpList _ _ _ ({ dst := some 106, op := _, type := _, pos := _, after := _, guard := _ } :: _) _ _); refine wpl_nee2 rfl e e true (.tmp 104) (.tmp 105) _ rfl rfl rfl (hid (by simp)) ?_)
    | ((with_reducible show wpList _ _ _ ({ dst := some 122, op := _, type := _, pos := _, after := _, guard := _ } :: _) _ _); refine wpl_nes rfl s s true (.tmp 120) (.tmp 121) _ rfl rfl rfl (hid (by simp)) ?_)
    | (go_at_call 18; refine (HV.out _).mono ?_; rintro x1 wq ⟨rfl, hbq⟩; replace hre := hre.below hbq hre.lt; replace hrs := hrs.below hbq hrs.lt; replace hrx := hrx.below hbq hrx.lt; replace hry := hry.below hbq hry.lt; replace hbe := hbe.trans (hbq.mono hbe.size); clear hbq)
    | (go_at_call_of 20 (Value.string V); refine (HEv.out _ (HFd.out.below hbe HFd.out.1)).mono ?_; rintro x1 wc ⟨rfl, hbq⟩; replace hre := hre.below hbq hre.lt; replace hrs := hrs.below hbq hrs.lt; replace hrx := hrx.below hbq hrx.lt; replace hry := hry.below hbq hry.lt; replace hbe := hbe.trans (hbq.mono hbe.size); clear hbq)
    | ((with_reducible show wpList _ _ _ ({ dst := none, op := .store _ (.tmp 21) (.tmp 137), type := _, pos := _, after := _, guard := _ } :: _) _ _); refine wpl_store_st rfl (.tmp 21) (.tmp 137) rfl (n := 9) HZE.out wc.heap.size #[.int .i64 0, .int .i64 0, .int .i64 0, .int .u64 0, .int .i64 0, .int .i64 0, .int .i64 0, .int .i64 0, .string ⟨#[]⟩] #[.int .i64 0, .int .i64 0, .int .i64 0, .int .u64 0, .int .i64 0, .int .i64 0, .int .i64 0, .int .i64 0, .string ⟨#[]⟩] rfl rfl (Row.new _ _ _) ?_ (hid rfl) (hid rfl) (hid (ezero_one)); intro wz hrv HBc; replace hre := (hre.alloc (.cells #[.int .i64 0, .int .i64 0, .int .i64 0, .int .u64 0, .int .i64 0, .int .i64 0, .int .i64 0, .int .i64 0, .string ⟨#[]⟩] 24)).grown HBc (by have := hre.lt; intro e; have := Option.some.inj e; omega); replace hrs := (hrs.alloc (.cells #[.int .i64 0, .int .i64 0, .int .i64 0, .int .u64 0, .int .i64 0, .int .i64 0, .int .i64 0, .int .i64 0, .string ⟨#[]⟩] 24)).grown HBc (by have := hrs.lt; intro e; have := Option.some.inj e; omega); replace hrx := (hrx.alloc (.cells #[.int .i64 0, .int .i64 0, .int .i64 0, .int .u64 0, .int .i64 0, .int .i64 0, .int .i64 0, .int .i64 0, .string ⟨#[]⟩] 24)).grown HBc (by have := hrx.lt; intro e; have := Option.some.inj e; omega); replace hry := (hry.alloc (.cells #[.int .i64 0, .int .i64 0, .int .i64 0, .int .u64 0, .int .i64 0, .int .i64 0, .int .i64 0, .int .i64 0, .string ⟨#[]⟩] 24)).grown HBc (by have := hry.lt; intro e; have := Option.some.inj e; omega); replace hbe := (hbe.alloc hbe.size (.cells #[.int .i64 0, .int .i64 0, .int .i64 0, .int .u64 0, .int .i64 0, .int .i64 0, .int .i64 0, .int .i64 0, .string ⟨#[]⟩] 24)).trans (below_grown HBc hbe.size (by have := hbe.size; simp; omega))))
  go_ret
  exact ⟨rfl, hbe⟩
set_option maxHeartbeats 2000000 in
theorem lays_04 (old P H V : ByteArray) (e x : En) (s t y : St) (b1 b2 c1 c2 : Bool) (w : World) (hf : Fd w) (HAW : Hid (∀ W, Fd W → Calls Tryd.prog 10 #[] W (Yes W)))
    (HLb : Hid (∀ W, Calls Tryd.prog 11 #[.string e.body] W fun x w' => x = .returned (.bool false) ∧ W = w'))
    (HLo : Hid (∀ W, Calls Tryd.prog 11 #[.string old] W fun x w' => x = .returned (.bool false) ∧ W = w'))
    (HP : Hid (∀ W, Fd W → Calls Tryd.prog 12 #[.string old, .agg #[.int .i64 e.view, .int .i64 e.opn, .int .i64 e.under, .int .u64 (e.parent : Int), .int .i64 e.client, .int .i64 e.session, .int .i64 e.request, .int .i64 e.oper, .string e.body]] W fun y w' => y = .returned (.tuple #[.string P, .int .i64 0]) ∧ Below W.heap.size W w'))
    (HQ : Hid (∀ W, Calls Tryd.prog 13 #[.string old, .agg #[.int .i64 e.view, .int .i64 e.opn, .int .i64 e.under, .int .u64 (e.parent : Int), .int .i64 e.client, .int .i64 e.session, .int .i64 e.request, .int .i64 e.oper, .string e.body]] W fun y w' => y = .returned (.tuple #[.string P, .int .i64 0]) ∧ Below W.heap.size W w'))
    (HH : Hid (∀ W, Calls Tryd.prog 14 #[.string old, .agg #[.int .i64 s.opn, .int .i64 s.view, .int .i64 s.under, .int .u64 (s.parent : Int), .int .u64 (s.sum : Int)]] W fun y w' => y = .returned (.tuple #[.string H, .int .i64 4]) ∧ Below W.heap.size W w'))
    (HK : Hid (∀ W, Calls Tryd.prog 15 #[.string old, .agg #[.int .i64 s.opn, .int .i64 s.view, .int .i64 s.under, .int .u64 (s.parent : Int), .int .u64 (s.sum : Int)]] W fun y w' => y = .returned (.tuple #[.string H, .int .i64 4]) ∧ Below W.heap.size W w'))
    (HSt : Hid (∀ W, Fd W → Calls Tryd.prog 16 #[.agg #[.int .i64 e.view, .int .i64 e.opn, .int .i64 e.under, .int .u64 (e.parent : Int), .int .i64 e.client, .int .i64 e.session, .int .i64 e.request, .int .i64 e.oper, .string e.body]] W (VE W (.agg #[.int .i64 t.opn, .int .i64 t.view, .int .i64 t.under, .int .u64 (t.parent : Int), .int .u64 (t.sum : Int)]))))
    (HSr : Hid (∀ W, Calls Tryd.prog 17 #[.agg #[.int .i64 e.view, .int .i64 e.opn, .int .i64 e.under, .int .u64 (e.parent : Int), .int .i64 e.client, .int .i64 e.session, .int .i64 e.request, .int .i64 e.oper, .string e.body]] W (VE W (.agg #[.int .i64 t.opn, .int .i64 t.view, .int .i64 t.under, .int .u64 (t.parent : Int), .int .u64 (t.sum : Int)]))))
    (HV : Hid (∀ W, Calls Tryd.prog 18 #[.string old] W fun y w' => y = .returned (.string V) ∧ Below W.heap.size W w'))
    (HVr : Hid (∀ W, Calls Tryd.prog 19 #[.string old] W fun y w' => y = .returned (.string V) ∧ Below W.heap.size W w'))
    (HEn : Hid (∀ W, Fd W → Calls Tryd.prog 20 #[.string P] W (LQ W #[.int .i64 e.view, .int .i64 e.opn, .int .i64 e.under, .int .u64 (e.parent : Int), .int .i64 e.client, .int .i64 e.session, .int .i64 e.request, .int .i64 e.oper, .string e.body] true true)))
    (HSb : Hid (∀ W, Calls Tryd.prog 21 #[.string H] W (LQ W #[.int .i64 y.opn, .int .i64 y.view, .int .i64 y.under, .int .u64 (y.parent : Int), .int .u64 (y.sum : Int)] c1 c2)))
    (HEv : Hid (∀ W, Fd W → Calls Tryd.prog 20 #[.string V] W (LQ W #[.int .i64 0, .int .i64 0, .int .i64 0, .int .u64 0, .int .i64 0, .int .i64 0, .int .i64 0, .int .i64 0, .string ⟨#[]⟩] false true))) :
    Calls Tryd.prog 3 #[.string old, .agg #[.int .i64 e.view, .int .i64 e.opn, .int .i64 e.under, .int .u64 (e.parent : Int), .int .i64 e.client, .int .i64 e.session, .int .i64 e.request, .int .i64 e.oper, .string e.body], .agg #[.int .i64 s.opn, .int .i64 s.view, .int .i64 s.under, .int .u64 (s.parent : Int), .int .u64 (s.sum : Int)]] w (Yes w) := by
  have qq : True := (fun _ _ _ => trivial) x b1 b2
  clear qq
  have HZE := hid esize
  have HZS := hid stsize
  have HFd := hid hf
  clear hf
  go_enter Tryd.func3, Tryd.ntmps3
  go_wp2_with (first
    | (go_at_call 10; refine (HAW.out _ (HFd.out.below (((Below.refl w.heap.size w).alloc (Nat.le_refl _) _).alloc (by simp) _) HFd.out.1)).mono ?_; rintro x1 w1 ⟨rfl, hbq⟩; have hre := ((Row.new w 24 #[.int .i64 e.view, .int .i64 e.opn, .int .i64 e.under, .int .u64 (e.parent : Int), .int .i64 e.client, .int .i64 e.session, .int .i64 e.request, .int .i64 e.oper, .string e.body]).alloc (.cells #[.int .i64 s.opn, .int .i64 s.view, .int .i64 s.under, .int .u64 (s.parent : Int), .int .u64 (s.sum : Int)] 26)).below hbq (by simp; omega); have hrs : Row w1 (w.heap.size + 1) 26 (Array.toList #[.int .i64 s.opn, .int .i64 s.view, .int .i64 s.under, .int .u64 (s.parent : Int), .int .u64 (s.sum : Int)]) := Row.below (B := w.heap.size + 1 + 1) (alloc2_new _ _ _) (hbq.mono (by simp)) (by omega); have hbe := (((Below.refl w.heap.size w).alloc (Nat.le_refl _) (.cells #[.int .i64 e.view, .int .i64 e.opn, .int .i64 e.under, .int .u64 (e.parent : Int), .int .i64 e.client, .int .i64 e.session, .int .i64 e.request, .int .i64 e.oper, .string e.body] 24)).alloc (by simp) (.cells #[.int .i64 s.opn, .int .i64 s.view, .int .i64 s.under, .int .u64 (s.parent : Int), .int .u64 (s.sum : Int)] 26)).trans (hbq.mono (by simp; omega)); have he8 := hre.at_ 8 _ rfl; clear hbq)
    | (go_at_call_of 11 (Value.string e.body); refine (HLb.out _).mono ?_; rintro x1 wq ⟨rfl, rfl⟩)
    | (go_at_call_of 11 (Value.string old); refine (HLo.out _).mono ?_; rintro x1 wq ⟨rfl, rfl⟩)
    | ((with_reducible show wpList _ _ _ ({ dst := _, op := .load 24 (.tmp 4), type := _, pos := _, after := _, guard := _ } :: _) _ _); refine wpl_load_want rfl 24 (.tmp 4) rfl w.heap.size rfl 24 #[.int .i64 e.view, .int .i64 e.opn, .int .i64 e.under, .int .u64 (e.parent : Int), .int .i64 e.client, .int .i64 e.session, .int .i64 e.request, .int .i64 e.oper, .string e.body] (0, 0) _ (Row.arr (cs := #[.int .i64 e.view, .int .i64 e.opn, .int .i64 e.under, .int .u64 (e.parent : Int), .int .i64 e.client, .int .i64 e.session, .int .i64 e.request, .int .i64 e.oper, .string e.body]) hre) Tryd.underlying24 rfl HZE.out ?_)
    | ((with_reducible show wpList _ _ _ ({ dst := _, op := .load 26 (.tmp 5), type := _, pos := _, after := _, guard := _ } :: _) _ _); refine wpl_load_want rfl 26 (.tmp 5) rfl (w.heap.size + 1) rfl 26 #[.int .i64 s.opn, .int .i64 s.view, .int .i64 s.under, .int .u64 (s.parent : Int), .int .u64 (s.sum : Int)] (0, 0) _ (Row.arr (cs := #[.int .i64 s.opn, .int .i64 s.view, .int .i64 s.under, .int .u64 (s.parent : Int), .int .u64 (s.sum : Int)]) hrs) Tryd.underlying26 rfl HZS.out ?_)
    | (go_at_call 12; refine (HP.out _ (HFd.out.below hbe HFd.out.1)).mono ?_; rintro x1 wq ⟨rfl, hbq⟩; replace hre := hre.below hbq hre.lt; replace hrs := hrs.below hbq hrs.lt; replace hbe := hbe.trans (hbq.mono hbe.size); clear hbq)
    | (go_at_call 13; refine (HQ.out _).mono ?_; rintro x1 wq ⟨rfl, hbq⟩; replace hre := hre.below hbq hre.lt; replace hrs := hrs.below hbq hrs.lt; replace hbe := hbe.trans (hbq.mono hbe.size); clear hbq)
    | (go_at_call 14; refine (HH.out _).mono ?_; rintro x1 wq ⟨rfl, hbq⟩; replace hre := hre.below hbq hre.lt; replace hrs := hrs.below hbq hrs.lt; replace hbe := hbe.trans (hbq.mono hbe.size); clear hbq)
    | (go_at_call 15; refine (HK.out _).mono ?_; rintro x1 wq ⟨rfl, hbq⟩; replace hre := hre.below hbq hre.lt; replace hrs := hrs.below hbq hrs.lt; replace hbe := hbe.trans (hbq.mono hbe.size); clear hbq))
  refine name_wpS (fun w6 hw6 => ?_)
  rw [← hw6] at hbe hre hrs
  clear hw6 he8
  have HBE := hid hbe
  have HEF := hid hre
  have HSF := hid hrs
  clear hbe hre hrs
  refine wp_region_held_drew (S := fun W => Below w6.heap.size w6 W) (by kernel_rfl) ((Below.refl _ _).drew) (fun hH => ?_)
  refine wpAnyH_take (i := 0) (v := .string P) rfl (by kernel_rfl) (by kernel_rfl) (by kernel_rfl) (fun _ _ _ h => h) (Or.inl ⟨by rfl, fun w' hw' => by clear hw'; go_simp⟩) hH ?_
  simp only [Act.put]
  refine wpAnyH_take (i := 1) (v := .string P) rfl (by kernel_rfl) (by kernel_rfl) (by kernel_rfl) (fun _ _ _ h => h) (Or.inl ⟨by rfl, fun w' hw' => by clear hw'; go_simp⟩) hH ?_
  simp only [Act.put]
  refine wpAnyH_take (i := 2) (v := .bool false) rfl (by kernel_rfl) (by kernel_rfl) (by kernel_rfl) (fun _ _ _ h => h) (Or.inl ⟨by rfl, fun w' hw' => by clear hw'; go_simp⟩) hH ?_
  simp only [Act.put]
  refine wpAnyH_take (i := 3) (v := .bool false) rfl (by kernel_rfl) (by kernel_rfl) (by kernel_rfl) (fun _ _ _ h => h) (Or.inl ⟨by rfl, fun w' hw' => by clear hw'; go_simp⟩) hH ?_
  simp only [Act.put]
  refine wpAnyH_take (i := 4) (v := .int .i64 0) rfl (by kernel_rfl) (by kernel_rfl) (by kernel_rfl) (fun _ _ _ h => h) (Or.inl ⟨by kernel_rfl, fun w' hw' => by clear hw'; go_simp⟩) hH ?_
  simp only [Act.put]
  refine wpAnyH_take (i := 5) (v := .int .i64 0) rfl (by kernel_rfl) (by kernel_rfl) (by kernel_rfl) (fun _ _ _ h => h) (Or.inl ⟨by kernel_rfl, fun w' hw' => by clear hw'; go_simp⟩) hH ?_
  simp only [Act.put]
  refine wpAnyH_take (i := 6) (v := .bool false) rfl (by kernel_rfl) (by kernel_rfl) (by kernel_rfl) (fun _ _ _ h => h) (Or.inl ⟨by kernel_rfl, fun w' hw' => by clear hw'; go_simp⟩) hH ?_
  simp only [Act.put]
  refine wpAnyH_take (i := 7) (v := .bool false) rfl (by kernel_rfl) (by kernel_rfl) (by kernel_rfl) (fun _ _ _ h => h) (Or.inl ⟨by rfl, fun w' hw' => by clear hw'; go_simp⟩) hH ?_
  simp only [Act.put]
  refine wpAnyH_take (i := 8) (v := .bool false) rfl (by kernel_rfl) (by kernel_rfl) (by kernel_rfl) (fun _ _ _ h => h) (Or.inl ⟨by rfl, fun w' hw' => by clear hw'; go_simp⟩) hH ?_
  simp only [Act.put]
  refine wpAnyH_take (i := 9) (v := .string H) rfl (by kernel_rfl) (by kernel_rfl) (by kernel_rfl) (fun _ _ _ h => h) (Or.inl ⟨by kernel_rfl, fun w' hw' => by clear hw'; go_simp⟩) hH ?_
  simp only [Act.put]
  refine wpAnyH_take (i := 10) (v := .string H) rfl (by kernel_rfl) (by kernel_rfl) (by kernel_rfl) (fun _ _ _ h => h) (Or.inl ⟨by kernel_rfl, fun w' hw' => by clear hw'; go_simp⟩) hH ?_
  simp only [Act.put]
  refine wpAnyH_take (i := 11) (v := .bool false) rfl (by kernel_rfl) (by kernel_rfl) (by kernel_rfl) (fun _ _ _ h => h) (Or.inl ⟨by kernel_rfl, fun w' hw' => by clear hw'; go_simp⟩) hH ?_
  simp only [Act.put]
  refine wpAnyH_take (i := 12) (v := .bool false) rfl (by kernel_rfl) (by kernel_rfl) (by kernel_rfl) (fun _ _ _ h => h) (Or.inl ⟨by rfl, fun w' hw' => by clear hw'; go_simp⟩) hH ?_
  simp only [Act.put]
  refine wpAnyH_take (i := 13) (v := .bool false) rfl (by kernel_rfl) (by kernel_rfl) (by kernel_rfl) (fun _ _ _ h => h) (Or.inl ⟨by rfl, fun w' hw' => by clear hw'; go_simp⟩) hH ?_
  simp only [Act.put]
  refine wpAnyH_take (i := 14) (v := .int .i64 4) rfl (by kernel_rfl) (by kernel_rfl) (by kernel_rfl) (fun _ _ _ h => h) (Or.inl ⟨by kernel_rfl, fun w' hw' => by clear hw'; go_simp⟩) hH ?_
  simp only [Act.put]
  refine wpAnyH_take (i := 15) (v := .int .i64 4) rfl (by kernel_rfl) (by kernel_rfl) (by kernel_rfl) (fun _ _ _ h => h) (Or.inl ⟨by kernel_rfl, fun w' hw' => by clear hw'; go_simp⟩) hH ?_
  simp only [Act.put]
  refine wpAnyH_take (i := 16) (v := .bool false) rfl (by kernel_rfl) (by kernel_rfl) (by kernel_rfl) (fun _ _ _ h => h) (Or.inl ⟨by kernel_rfl, fun w' hw' => by clear hw'; go_simp⟩) hH ?_
  simp only [Act.put]
  refine wpAnyH_take (i := 17) (v := .bool false) rfl (by kernel_rfl) (by kernel_rfl) (by kernel_rfl) (fun _ _ _ h => h) (Or.inl ⟨by rfl, fun w' hw' => by clear hw'; go_simp⟩) hH ?_
  simp only [Act.put]
  refine wpAnyH_take (i := 18) (v := .bool false) rfl (by kernel_rfl) (by kernel_rfl) (by kernel_rfl) (fun _ _ _ h => h) (Or.inl ⟨by rfl, fun w' hw' => by clear hw'; go_simp⟩) hH ?_
  simp only [Act.put]
  refine wpAnyH_take (i := 19) (v := .agg #[.int .i64 e.view, .int .i64 e.opn, .int .i64 e.under, .int .u64 (e.parent : Int), .int .i64 e.client, .int .i64 e.session, .int .i64 e.request, .int .i64 e.oper, .string e.body]) rfl (by kernel_rfl) (by kernel_rfl) (by kernel_rfl) (fun _ _ _ h => h) ?_ hH ?_
  · refine yieldsIf_load_mid ?_ 24 (.tmp 4) ?_ w.heap.size 0 ?_ (Array.toList #[.int .i64 e.view, .int .i64 e.opn, .int .i64 e.under, .int .u64 (e.parent : Int), .int .i64 e.client, .int .i64 e.session, .int .i64 e.request, .int .i64 e.oper, .string e.body]) _ (fun W hW => Row.range (HEF.out.below hW HEF.out.lt)) Tryd.underlying24 rfl (by exact HZE.out)
    all_goals kernel_rfl
  simp only [Act.put]
  refine wpAnyH_take (i := 21) (v := .agg #[.int .i64 e.view, .int .i64 e.opn, .int .i64 e.under, .int .u64 (e.parent : Int), .int .i64 e.client, .int .i64 e.session, .int .i64 e.request, .int .i64 e.oper, .string e.body]) rfl (by kernel_rfl) (by kernel_rfl) (by kernel_rfl) (fun _ _ _ h => h) ?_ hH ?_
  · refine yieldsIf_load_mid ?_ 24 (.tmp 4) ?_ w.heap.size 0 ?_ (Array.toList #[.int .i64 e.view, .int .i64 e.opn, .int .i64 e.under, .int .u64 (e.parent : Int), .int .i64 e.client, .int .i64 e.session, .int .i64 e.request, .int .i64 e.oper, .string e.body]) _ (fun W hW => Row.range (HEF.out.below hW HEF.out.lt)) Tryd.underlying24 rfl (by exact HZE.out)
    all_goals kernel_rfl
  simp only [Act.put]
  refine wpAnyH_ready (rs := [20]) (by kernel_rfl) (by simp) ?_
  refine AllReadyH.cons rfl (fun K hK => ?_) AllReadyH.nil
  rw [if_pos (by kernel_rfl)]
  go_simp
  go_at_call 16
  refine (HSt.out _ (HFd.out.below (HBE.out.trans (hH.mono HBE.out.size)) HFd.out.1)).mono ?_
  rintro x1 w7 ⟨rfl, hb7⟩
  go_wp2_with fail
  refine hK.out _ _ (hH.trans (hb7.mono hH.size)) (fun hH => ?_)
  clear hK K
  try simp only [Act.put]
  refine wpAnyH_ready (rs := [22]) (by kernel_rfl) (by simp) ?_
  refine AllReadyH.cons rfl (fun K hK => ?_) AllReadyH.nil
  rw [if_pos (by kernel_rfl)]
  go_simp
  go_at_call 17
  refine (HSr.out _).mono ?_
  rintro x1 w8 ⟨rfl, hb8⟩
  go_wp2_with fail
  refine hK.out _ _ (hH.trans (hb8.mono hH.size)) (fun hH => ?_)
  clear hK K
  try simp only [Act.put]
  refine wpAnyH_take (i := 23) (v := .bool (!true)) rfl (by kernel_rfl) (by kernel_rfl) (by kernel_rfl) (fun _ _ _ h => h) (yields_nes (by kernel_rfl) t t true (hid (by simp)) (.tmp 77) (.tmp 79) _ rfl (by kernel_rfl) (by kernel_rfl)) hH ?_
  simp only [Act.put]
  refine wpAnyH_take (i := 24) (v := .bool false) rfl (by kernel_rfl) (by kernel_rfl) (by kernel_rfl) (fun _ _ _ h => h) (Or.inl ⟨by kernel_rfl, fun w' _ => by kernel_rfl⟩) hH ?_
  simp only [Act.put]
  refine wpAnyH_take (i := 25) (v := .bool false) rfl (by kernel_rfl) (by kernel_rfl) (by kernel_rfl) (fun _ _ _ h => h) (Or.inl ⟨by kernel_rfl, fun w' _ => by kernel_rfl⟩) hH ?_
  simp only [Act.put]
  refine wpAnyH_take (i := 26) (v := .string old) rfl (by kernel_rfl) (by kernel_rfl) (by kernel_rfl) (fun _ _ _ h => h) (Or.inl ⟨by kernel_rfl, fun w' _ => by kernel_rfl⟩) hH ?_
  simp only [Act.put]
  refine wpAnyH_take (i := 28) (v := .string old) rfl (by kernel_rfl) (by kernel_rfl) (by kernel_rfl) (fun _ _ _ h => h) (Or.inl ⟨by kernel_rfl, fun w' _ => by kernel_rfl⟩) hH ?_
  simp only [Act.put]
  refine wpAnyH_ready (rs := [27]) (by kernel_rfl) (by simp) ?_
  refine AllReadyH.cons rfl (fun K hK => ?_) AllReadyH.nil
  rw [if_pos (by kernel_rfl)]
  go_simp
  go_at_call 18
  refine (HV.out _).mono ?_
  rintro x1 w9 ⟨rfl, hb9⟩
  go_wp2_with fail
  refine hK.out _ _ (hH.trans (hb9.mono hH.size)) (fun hH => ?_)
  clear hK K
  try simp only [Act.put]
  refine wpAnyH_ready (rs := [29]) (by kernel_rfl) (by simp) ?_
  refine AllReadyH.cons rfl (fun K hK => ?_) AllReadyH.nil
  rw [if_pos (by kernel_rfl)]
  go_simp
  go_at_call 19
  refine (HVr.out _).mono ?_
  rintro x1 w10 ⟨rfl, hb10⟩
  go_wp2_with fail
  refine hK.out _ _ (hH.trans (hb10.mono hH.size)) (fun hH => ?_)
  clear hK K
  try simp only [Act.put]
  refine wpAnyH_take (i := 30) (v := .bool false) rfl (by kernel_rfl) (by kernel_rfl) (by kernel_rfl) (fun _ _ _ h => h) (Or.inl ⟨by kernel_rfl, fun w' hw' => by clear hw'; go_simp⟩) hH ?_
  simp only [Act.put]
  refine wpAnyH_take (i := 31) (v := .bool false) rfl (by kernel_rfl) (by kernel_rfl) (by kernel_rfl) (fun _ _ _ h => h) (Or.inl ⟨by kernel_rfl, fun w' _ => by kernel_rfl⟩) hH ?_
  simp only [Act.put]
  refine wpAnyH_done (by kernel_rfl) ?_ _
  try simp only [Act.put]
  have hbe := HBE.out.trans (hH.mono HBE.out.size)
  have hre := HEF.out.below hH HEF.out.lt
  have hrs := HSF.out.below hH HSF.out.lt
  clear hb7 hb8 hb9 hb10 hH
  go_wp2_with (first
    | (go_at_call_of 20 (Value.string P); refine (HEn.out _ (HFd.out.below hbe HFd.out.1)).mono ?_; rintro x1 wa ⟨rfl, hbq⟩; replace hre := hre.below hbq hre.lt; replace hrs := hrs.below hbq hrs.lt; replace hbe := hbe.trans (hbq.mono hbe.size); clear hbq)
    | ((with_reducible show wpList _ _ _ ({ dst := none, op := .store _ (.tmp 15) (.tmp 92), type := _, pos := _, after := _, guard := _ } :: _) _ _); refine wpl_store_st rfl (.tmp 15) (.tmp 92) rfl (n := 9) HZE.out wa.heap.size #[.int .i64 0, .int .i64 0, .int .i64 0, .int .u64 0, .int .i64 0, .int .i64 0, .int .i64 0, .int .i64 0, .string ⟨#[]⟩] #[.int .i64 e.view, .int .i64 e.opn, .int .i64 e.under, .int .u64 (e.parent : Int), .int .i64 e.client, .int .i64 e.session, .int .i64 e.request, .int .i64 e.oper, .string e.body] rfl rfl (Row.new _ _ _) ?_ (hid rfl) (hid rfl) (hid (ecells_one _)); intro wz hrx HBa; replace hre := (hre.alloc (.cells #[.int .i64 0, .int .i64 0, .int .i64 0, .int .u64 0, .int .i64 0, .int .i64 0, .int .i64 0, .int .i64 0, .string ⟨#[]⟩] 24)).grown HBa (by have := hre.lt; intro e; have := Option.some.inj e; omega); replace hrs := (hrs.alloc (.cells #[.int .i64 0, .int .i64 0, .int .i64 0, .int .u64 0, .int .i64 0, .int .i64 0, .int .i64 0, .int .i64 0, .string ⟨#[]⟩] 24)).grown HBa (by have := hrs.lt; intro e; have := Option.some.inj e; omega); replace hbe := (hbe.alloc hbe.size (.cells #[.int .i64 0, .int .i64 0, .int .i64 0, .int .u64 0, .int .i64 0, .int .i64 0, .int .i64 0, .int .i64 0, .string ⟨#[]⟩] 24)).trans (below_grown HBa hbe.size (by have := hbe.size; simp; omega)))
    | (go_at_call 21; refine (HSb.out _).mono ?_; rintro x1 wb ⟨rfl, hbq⟩; replace hre := hre.below hbq hre.lt; replace hrs := hrs.below hbq hrs.lt; replace hrx := hrx.below hbq hrx.lt; replace hbe := hbe.trans (hbq.mono hbe.size); clear hbq)
    | ((with_reducible show wpList _ _ _ ({ dst := none, op := .store _ (.tmp 18) (.tmp 98), type := _, pos := _, after := _, guard := _ } :: _) _ _); refine wpl_store_st rfl (.tmp 18) (.tmp 98) rfl (n := 5) HZS.out wb.heap.size #[.int .i64 0, .int .i64 0, .int .i64 0, .int .u64 0, .int .u64 0] #[.int .i64 y.opn, .int .i64 y.view, .int .i64 y.under, .int .u64 (y.parent : Int), .int .u64 (y.sum : Int)] rfl rfl (Row.new _ _ _) ?_ (hid rfl) (hid rfl) (hid (stcells_one _)); intro wz hry HBb; replace hre := (hre.alloc (.cells #[.int .i64 0, .int .i64 0, .int .i64 0, .int .u64 0, .int .u64 0] 26)).grown HBb (by have := hre.lt; intro e; have := Option.some.inj e; omega); replace hrs := (hrs.alloc (.cells #[.int .i64 0, .int .i64 0, .int .i64 0, .int .u64 0, .int .u64 0] 26)).grown HBb (by have := hrs.lt; intro e; have := Option.some.inj e; omega); replace hrx := (hrx.alloc (.cells #[.int .i64 0, .int .i64 0, .int .i64 0, .int .u64 0, .int .u64 0] 26)).grown HBb (by have := hrx.lt; intro e; have := Option.some.inj e; omega); replace hbe := (hbe.alloc hbe.size (.cells #[.int .i64 0, .int .i64 0, .int .i64 0, .int .u64 0, .int .u64 0] 26)).trans (below_grown HBb hbe.size (by have := hbe.size; simp; omega)))
    | ((with_reducible show wpList _ _ _ ({ dst := _, op := .load 24 (.tmp 15), type := _, pos := _, after := _, guard := _ } :: _) _ _); refine wpl_load_want rfl 24 (.tmp 15) rfl wa.heap.size rfl 24 #[.int .i64 e.view, .int .i64 e.opn, .int .i64 e.under, .int .u64 (e.parent : Int), .int .i64 e.client, .int .i64 e.session, .int .i64 e.request, .int .i64 e.oper, .string e.body] (0, 0) _ (Row.arr (cs := #[.int .i64 e.view, .int .i64 e.opn, .int .i64 e.under, .int .u64 (e.parent : Int), .int .i64 e.client, .int .i64 e.session, .int .i64 e.request, .int .i64 e.oper, .string e.body]) hrx) Tryd.underlying24 rfl HZE.out ?_)
    | ((with_reducible show wpList _ _ _ ({ dst := _, op := .load 24 (.tmp 4), type := _, pos := _, after := _, guard := _ } :: _) _ _); refine wpl_load_want rfl 24 (.tmp 4) rfl w.heap.size rfl 24 #[.int .i64 e.view, .int .i64 e.opn, .int .i64 e.under, .int .u64 (e.parent : Int), .int .i64 e.client, .int .i64 e.session, .int .i64 e.request, .int .i64 e.oper, .string e.body] (0, 0) _ (Row.arr (cs := #[.int .i64 e.view, .int .i64 e.opn, .int .i64 e.under, .int .u64 (e.parent : Int), .int .i64 e.client, .int .i64 e.session, .int .i64 e.request, .int .i64 e.oper, .string e.body]) hre) Tryd.underlying24 rfl HZE.out ?_)
    | ((with_reducible show wpList _ _ _ ({ dst := some 106, op := _, type := _, pos := _, after := _, guard := _ } :: _) _ _); refine wpl_nee2 rfl e e true (.tmp 104) (.tmp 105) _ rfl rfl rfl (hid (by simp)) ?_)
    | (go_at_call 18; refine (HV.out _).mono ?_; rintro x1 wq ⟨rfl, hbq⟩; replace hre := hre.below hbq hre.lt; replace hrs := hrs.below hbq hrs.lt; replace hrx := hrx.below hbq hrx.lt; replace hry := hry.below hbq hry.lt; replace hbe := hbe.trans (hbq.mono hbe.size); clear hbq)
    | (go_at_call_of 20 (Value.string V); refine (HEv.out _ (HFd.out.below hbe HFd.out.1)).mono ?_; rintro x1 wc ⟨rfl, hbq⟩; replace hre := hre.below hbq hre.lt; replace hrs := hrs.below hbq hrs.lt; replace hrx := hrx.below hbq hrx.lt; replace hry := hry.below hbq hry.lt; replace hbe := hbe.trans (hbq.mono hbe.size); clear hbq)
    | ((with_reducible show wpList _ _ _ ({ dst := none, op := .store _ (.tmp 21) (.tmp 137), type := _, pos := _, after := _, guard := _ } :: _) _ _); refine wpl_store_st rfl (.tmp 21) (.tmp 137) rfl (n := 9) HZE.out wc.heap.size #[.int .i64 0, .int .i64 0, .int .i64 0, .int .u64 0, .int .i64 0, .int .i64 0, .int .i64 0, .int .i64 0, .string ⟨#[]⟩] #[.int .i64 0, .int .i64 0, .int .i64 0, .int .u64 0, .int .i64 0, .int .i64 0, .int .i64 0, .int .i64 0, .string ⟨#[]⟩] rfl rfl (Row.new _ _ _) ?_ (hid rfl) (hid rfl) (hid (ezero_one)); intro wz hrv HBc; replace hre := (hre.alloc (.cells #[.int .i64 0, .int .i64 0, .int .i64 0, .int .u64 0, .int .i64 0, .int .i64 0, .int .i64 0, .int .i64 0, .string ⟨#[]⟩] 24)).grown HBc (by have := hre.lt; intro e; have := Option.some.inj e; omega); replace hrs := (hrs.alloc (.cells #[.int .i64 0, .int .i64 0, .int .i64 0, .int .u64 0, .int .i64 0, .int .i64 0, .int .i64 0, .int .i64 0, .string ⟨#[]⟩] 24)).grown HBc (by have := hrs.lt; intro e; have := Option.some.inj e; omega); replace hrx := (hrx.alloc (.cells #[.int .i64 0, .int .i64 0, .int .i64 0, .int .u64 0, .int .i64 0, .int .i64 0, .int .i64 0, .int .i64 0, .string ⟨#[]⟩] 24)).grown HBc (by have := hrx.lt; intro e; have := Option.some.inj e; omega); replace hry := (hry.alloc (.cells #[.int .i64 0, .int .i64 0, .int .i64 0, .int .u64 0, .int .i64 0, .int .i64 0, .int .i64 0, .int .i64 0, .string ⟨#[]⟩] 24)).grown HBc (by have := hry.lt; intro e; have := Option.some.inj e; omega); replace hbe := (hbe.alloc hbe.size (.cells #[.int .i64 0, .int .i64 0, .int .i64 0, .int .u64 0, .int .i64 0, .int .i64 0, .int .i64 0, .int .i64 0, .string ⟨#[]⟩] 24)).trans (below_grown HBc hbe.size (by have := hbe.size; simp; omega))))
  go_ret
  exact ⟨rfl, hbe⟩
set_option maxHeartbeats 2000000 in
theorem lays_40 (old P H V : ByteArray) (e x : En) (s t y : St) (b1 b2 c1 c2 : Bool) (w : World) (hf : Fd w) (HAW : Hid (∀ W, Fd W → Calls Tryd.prog 10 #[] W (Yes W)))
    (HLb : Hid (∀ W, Calls Tryd.prog 11 #[.string e.body] W fun x w' => x = .returned (.bool false) ∧ W = w'))
    (HLo : Hid (∀ W, Calls Tryd.prog 11 #[.string old] W fun x w' => x = .returned (.bool false) ∧ W = w'))
    (HP : Hid (∀ W, Fd W → Calls Tryd.prog 12 #[.string old, .agg #[.int .i64 e.view, .int .i64 e.opn, .int .i64 e.under, .int .u64 (e.parent : Int), .int .i64 e.client, .int .i64 e.session, .int .i64 e.request, .int .i64 e.oper, .string e.body]] W fun y w' => y = .returned (.tuple #[.string P, .int .i64 4]) ∧ Below W.heap.size W w'))
    (HQ : Hid (∀ W, Calls Tryd.prog 13 #[.string old, .agg #[.int .i64 e.view, .int .i64 e.opn, .int .i64 e.under, .int .u64 (e.parent : Int), .int .i64 e.client, .int .i64 e.session, .int .i64 e.request, .int .i64 e.oper, .string e.body]] W fun y w' => y = .returned (.tuple #[.string P, .int .i64 4]) ∧ Below W.heap.size W w'))
    (HH : Hid (∀ W, Calls Tryd.prog 14 #[.string old, .agg #[.int .i64 s.opn, .int .i64 s.view, .int .i64 s.under, .int .u64 (s.parent : Int), .int .u64 (s.sum : Int)]] W fun y w' => y = .returned (.tuple #[.string H, .int .i64 0]) ∧ Below W.heap.size W w'))
    (HK : Hid (∀ W, Calls Tryd.prog 15 #[.string old, .agg #[.int .i64 s.opn, .int .i64 s.view, .int .i64 s.under, .int .u64 (s.parent : Int), .int .u64 (s.sum : Int)]] W fun y w' => y = .returned (.tuple #[.string H, .int .i64 0]) ∧ Below W.heap.size W w'))
    (HSt : Hid (∀ W, Fd W → Calls Tryd.prog 16 #[.agg #[.int .i64 e.view, .int .i64 e.opn, .int .i64 e.under, .int .u64 (e.parent : Int), .int .i64 e.client, .int .i64 e.session, .int .i64 e.request, .int .i64 e.oper, .string e.body]] W (VE W (.agg #[.int .i64 t.opn, .int .i64 t.view, .int .i64 t.under, .int .u64 (t.parent : Int), .int .u64 (t.sum : Int)]))))
    (HSr : Hid (∀ W, Calls Tryd.prog 17 #[.agg #[.int .i64 e.view, .int .i64 e.opn, .int .i64 e.under, .int .u64 (e.parent : Int), .int .i64 e.client, .int .i64 e.session, .int .i64 e.request, .int .i64 e.oper, .string e.body]] W (VE W (.agg #[.int .i64 t.opn, .int .i64 t.view, .int .i64 t.under, .int .u64 (t.parent : Int), .int .u64 (t.sum : Int)]))))
    (HV : Hid (∀ W, Calls Tryd.prog 18 #[.string old] W fun y w' => y = .returned (.string V) ∧ Below W.heap.size W w'))
    (HVr : Hid (∀ W, Calls Tryd.prog 19 #[.string old] W fun y w' => y = .returned (.string V) ∧ Below W.heap.size W w'))
    (HEn : Hid (∀ W, Fd W → Calls Tryd.prog 20 #[.string P] W (LQ W #[.int .i64 x.view, .int .i64 x.opn, .int .i64 x.under, .int .u64 (x.parent : Int), .int .i64 x.client, .int .i64 x.session, .int .i64 x.request, .int .i64 x.oper, .string x.body] b1 b2)))
    (HSb : Hid (∀ W, Calls Tryd.prog 21 #[.string H] W (LQ W #[.int .i64 s.opn, .int .i64 s.view, .int .i64 s.under, .int .u64 (s.parent : Int), .int .u64 (s.sum : Int)] true true)))
    (HEv : Hid (∀ W, Fd W → Calls Tryd.prog 20 #[.string V] W (LQ W #[.int .i64 0, .int .i64 0, .int .i64 0, .int .u64 0, .int .i64 0, .int .i64 0, .int .i64 0, .int .i64 0, .string ⟨#[]⟩] false true))) :
    Calls Tryd.prog 3 #[.string old, .agg #[.int .i64 e.view, .int .i64 e.opn, .int .i64 e.under, .int .u64 (e.parent : Int), .int .i64 e.client, .int .i64 e.session, .int .i64 e.request, .int .i64 e.oper, .string e.body], .agg #[.int .i64 s.opn, .int .i64 s.view, .int .i64 s.under, .int .u64 (s.parent : Int), .int .u64 (s.sum : Int)]] w (Yes w) := by
  have qq : True := (fun _ _ _ => trivial) y c1 c2
  clear qq
  have HZE := hid esize
  have HZS := hid stsize
  have HFd := hid hf
  clear hf
  go_enter Tryd.func3, Tryd.ntmps3
  go_wp2_with (first
    | (go_at_call 10; refine (HAW.out _ (HFd.out.below (((Below.refl w.heap.size w).alloc (Nat.le_refl _) _).alloc (by simp) _) HFd.out.1)).mono ?_; rintro x1 w1 ⟨rfl, hbq⟩; have hre := ((Row.new w 24 #[.int .i64 e.view, .int .i64 e.opn, .int .i64 e.under, .int .u64 (e.parent : Int), .int .i64 e.client, .int .i64 e.session, .int .i64 e.request, .int .i64 e.oper, .string e.body]).alloc (.cells #[.int .i64 s.opn, .int .i64 s.view, .int .i64 s.under, .int .u64 (s.parent : Int), .int .u64 (s.sum : Int)] 26)).below hbq (by simp; omega); have hrs : Row w1 (w.heap.size + 1) 26 (Array.toList #[.int .i64 s.opn, .int .i64 s.view, .int .i64 s.under, .int .u64 (s.parent : Int), .int .u64 (s.sum : Int)]) := Row.below (B := w.heap.size + 1 + 1) (alloc2_new _ _ _) (hbq.mono (by simp)) (by omega); have hbe := (((Below.refl w.heap.size w).alloc (Nat.le_refl _) (.cells #[.int .i64 e.view, .int .i64 e.opn, .int .i64 e.under, .int .u64 (e.parent : Int), .int .i64 e.client, .int .i64 e.session, .int .i64 e.request, .int .i64 e.oper, .string e.body] 24)).alloc (by simp) (.cells #[.int .i64 s.opn, .int .i64 s.view, .int .i64 s.under, .int .u64 (s.parent : Int), .int .u64 (s.sum : Int)] 26)).trans (hbq.mono (by simp; omega)); have he8 := hre.at_ 8 _ rfl; clear hbq)
    | (go_at_call_of 11 (Value.string e.body); refine (HLb.out _).mono ?_; rintro x1 wq ⟨rfl, rfl⟩)
    | (go_at_call_of 11 (Value.string old); refine (HLo.out _).mono ?_; rintro x1 wq ⟨rfl, rfl⟩)
    | ((with_reducible show wpList _ _ _ ({ dst := _, op := .load 24 (.tmp 4), type := _, pos := _, after := _, guard := _ } :: _) _ _); refine wpl_load_want rfl 24 (.tmp 4) rfl w.heap.size rfl 24 #[.int .i64 e.view, .int .i64 e.opn, .int .i64 e.under, .int .u64 (e.parent : Int), .int .i64 e.client, .int .i64 e.session, .int .i64 e.request, .int .i64 e.oper, .string e.body] (0, 0) _ (Row.arr (cs := #[.int .i64 e.view, .int .i64 e.opn, .int .i64 e.under, .int .u64 (e.parent : Int), .int .i64 e.client, .int .i64 e.session, .int .i64 e.request, .int .i64 e.oper, .string e.body]) hre) Tryd.underlying24 rfl HZE.out ?_)
    | ((with_reducible show wpList _ _ _ ({ dst := _, op := .load 26 (.tmp 5), type := _, pos := _, after := _, guard := _ } :: _) _ _); refine wpl_load_want rfl 26 (.tmp 5) rfl (w.heap.size + 1) rfl 26 #[.int .i64 s.opn, .int .i64 s.view, .int .i64 s.under, .int .u64 (s.parent : Int), .int .u64 (s.sum : Int)] (0, 0) _ (Row.arr (cs := #[.int .i64 s.opn, .int .i64 s.view, .int .i64 s.under, .int .u64 (s.parent : Int), .int .u64 (s.sum : Int)]) hrs) Tryd.underlying26 rfl HZS.out ?_)
    | (go_at_call 12; refine (HP.out _ (HFd.out.below hbe HFd.out.1)).mono ?_; rintro x1 wq ⟨rfl, hbq⟩; replace hre := hre.below hbq hre.lt; replace hrs := hrs.below hbq hrs.lt; replace hbe := hbe.trans (hbq.mono hbe.size); clear hbq)
    | (go_at_call 13; refine (HQ.out _).mono ?_; rintro x1 wq ⟨rfl, hbq⟩; replace hre := hre.below hbq hre.lt; replace hrs := hrs.below hbq hrs.lt; replace hbe := hbe.trans (hbq.mono hbe.size); clear hbq)
    | (go_at_call 14; refine (HH.out _).mono ?_; rintro x1 wq ⟨rfl, hbq⟩; replace hre := hre.below hbq hre.lt; replace hrs := hrs.below hbq hrs.lt; replace hbe := hbe.trans (hbq.mono hbe.size); clear hbq)
    | (go_at_call 15; refine (HK.out _).mono ?_; rintro x1 wq ⟨rfl, hbq⟩; replace hre := hre.below hbq hre.lt; replace hrs := hrs.below hbq hrs.lt; replace hbe := hbe.trans (hbq.mono hbe.size); clear hbq))
  refine name_wpS (fun w6 hw6 => ?_)
  rw [← hw6] at hbe hre hrs
  clear hw6 he8
  have HBE := hid hbe
  have HEF := hid hre
  have HSF := hid hrs
  clear hbe hre hrs
  refine wp_region_held_drew (S := fun W => Below w6.heap.size w6 W) (by kernel_rfl) ((Below.refl _ _).drew) (fun hH => ?_)
  refine wpAnyH_take (i := 0) (v := .string P) rfl (by kernel_rfl) (by kernel_rfl) (by kernel_rfl) (fun _ _ _ h => h) (Or.inl ⟨by rfl, fun w' hw' => by clear hw'; go_simp⟩) hH ?_
  simp only [Act.put]
  refine wpAnyH_take (i := 1) (v := .string P) rfl (by kernel_rfl) (by kernel_rfl) (by kernel_rfl) (fun _ _ _ h => h) (Or.inl ⟨by rfl, fun w' hw' => by clear hw'; go_simp⟩) hH ?_
  simp only [Act.put]
  refine wpAnyH_take (i := 2) (v := .bool false) rfl (by kernel_rfl) (by kernel_rfl) (by kernel_rfl) (fun _ _ _ h => h) (Or.inl ⟨by rfl, fun w' hw' => by clear hw'; go_simp⟩) hH ?_
  simp only [Act.put]
  refine wpAnyH_take (i := 3) (v := .bool false) rfl (by kernel_rfl) (by kernel_rfl) (by kernel_rfl) (fun _ _ _ h => h) (Or.inl ⟨by rfl, fun w' hw' => by clear hw'; go_simp⟩) hH ?_
  simp only [Act.put]
  refine wpAnyH_take (i := 4) (v := .int .i64 4) rfl (by kernel_rfl) (by kernel_rfl) (by kernel_rfl) (fun _ _ _ h => h) (Or.inl ⟨by kernel_rfl, fun w' hw' => by clear hw'; go_simp⟩) hH ?_
  simp only [Act.put]
  refine wpAnyH_take (i := 5) (v := .int .i64 4) rfl (by kernel_rfl) (by kernel_rfl) (by kernel_rfl) (fun _ _ _ h => h) (Or.inl ⟨by kernel_rfl, fun w' hw' => by clear hw'; go_simp⟩) hH ?_
  simp only [Act.put]
  refine wpAnyH_take (i := 6) (v := .bool false) rfl (by kernel_rfl) (by kernel_rfl) (by kernel_rfl) (fun _ _ _ h => h) (Or.inl ⟨by kernel_rfl, fun w' hw' => by clear hw'; go_simp⟩) hH ?_
  simp only [Act.put]
  refine wpAnyH_take (i := 7) (v := .bool false) rfl (by kernel_rfl) (by kernel_rfl) (by kernel_rfl) (fun _ _ _ h => h) (Or.inl ⟨by rfl, fun w' hw' => by clear hw'; go_simp⟩) hH ?_
  simp only [Act.put]
  refine wpAnyH_take (i := 8) (v := .bool false) rfl (by kernel_rfl) (by kernel_rfl) (by kernel_rfl) (fun _ _ _ h => h) (Or.inl ⟨by rfl, fun w' hw' => by clear hw'; go_simp⟩) hH ?_
  simp only [Act.put]
  refine wpAnyH_take (i := 9) (v := .string H) rfl (by kernel_rfl) (by kernel_rfl) (by kernel_rfl) (fun _ _ _ h => h) (Or.inl ⟨by kernel_rfl, fun w' hw' => by clear hw'; go_simp⟩) hH ?_
  simp only [Act.put]
  refine wpAnyH_take (i := 10) (v := .string H) rfl (by kernel_rfl) (by kernel_rfl) (by kernel_rfl) (fun _ _ _ h => h) (Or.inl ⟨by kernel_rfl, fun w' hw' => by clear hw'; go_simp⟩) hH ?_
  simp only [Act.put]
  refine wpAnyH_take (i := 11) (v := .bool false) rfl (by kernel_rfl) (by kernel_rfl) (by kernel_rfl) (fun _ _ _ h => h) (Or.inl ⟨by kernel_rfl, fun w' hw' => by clear hw'; go_simp⟩) hH ?_
  simp only [Act.put]
  refine wpAnyH_take (i := 12) (v := .bool false) rfl (by kernel_rfl) (by kernel_rfl) (by kernel_rfl) (fun _ _ _ h => h) (Or.inl ⟨by rfl, fun w' hw' => by clear hw'; go_simp⟩) hH ?_
  simp only [Act.put]
  refine wpAnyH_take (i := 13) (v := .bool false) rfl (by kernel_rfl) (by kernel_rfl) (by kernel_rfl) (fun _ _ _ h => h) (Or.inl ⟨by rfl, fun w' hw' => by clear hw'; go_simp⟩) hH ?_
  simp only [Act.put]
  refine wpAnyH_take (i := 14) (v := .int .i64 0) rfl (by kernel_rfl) (by kernel_rfl) (by kernel_rfl) (fun _ _ _ h => h) (Or.inl ⟨by kernel_rfl, fun w' hw' => by clear hw'; go_simp⟩) hH ?_
  simp only [Act.put]
  refine wpAnyH_take (i := 15) (v := .int .i64 0) rfl (by kernel_rfl) (by kernel_rfl) (by kernel_rfl) (fun _ _ _ h => h) (Or.inl ⟨by kernel_rfl, fun w' hw' => by clear hw'; go_simp⟩) hH ?_
  simp only [Act.put]
  refine wpAnyH_take (i := 16) (v := .bool false) rfl (by kernel_rfl) (by kernel_rfl) (by kernel_rfl) (fun _ _ _ h => h) (Or.inl ⟨by kernel_rfl, fun w' hw' => by clear hw'; go_simp⟩) hH ?_
  simp only [Act.put]
  refine wpAnyH_take (i := 17) (v := .bool false) rfl (by kernel_rfl) (by kernel_rfl) (by kernel_rfl) (fun _ _ _ h => h) (Or.inl ⟨by rfl, fun w' hw' => by clear hw'; go_simp⟩) hH ?_
  simp only [Act.put]
  refine wpAnyH_take (i := 18) (v := .bool false) rfl (by kernel_rfl) (by kernel_rfl) (by kernel_rfl) (fun _ _ _ h => h) (Or.inl ⟨by rfl, fun w' hw' => by clear hw'; go_simp⟩) hH ?_
  simp only [Act.put]
  refine wpAnyH_take (i := 19) (v := .agg #[.int .i64 e.view, .int .i64 e.opn, .int .i64 e.under, .int .u64 (e.parent : Int), .int .i64 e.client, .int .i64 e.session, .int .i64 e.request, .int .i64 e.oper, .string e.body]) rfl (by kernel_rfl) (by kernel_rfl) (by kernel_rfl) (fun _ _ _ h => h) ?_ hH ?_
  · refine yieldsIf_load_mid ?_ 24 (.tmp 4) ?_ w.heap.size 0 ?_ (Array.toList #[.int .i64 e.view, .int .i64 e.opn, .int .i64 e.under, .int .u64 (e.parent : Int), .int .i64 e.client, .int .i64 e.session, .int .i64 e.request, .int .i64 e.oper, .string e.body]) _ (fun W hW => Row.range (HEF.out.below hW HEF.out.lt)) Tryd.underlying24 rfl (by exact HZE.out)
    all_goals kernel_rfl
  simp only [Act.put]
  refine wpAnyH_take (i := 21) (v := .agg #[.int .i64 e.view, .int .i64 e.opn, .int .i64 e.under, .int .u64 (e.parent : Int), .int .i64 e.client, .int .i64 e.session, .int .i64 e.request, .int .i64 e.oper, .string e.body]) rfl (by kernel_rfl) (by kernel_rfl) (by kernel_rfl) (fun _ _ _ h => h) ?_ hH ?_
  · refine yieldsIf_load_mid ?_ 24 (.tmp 4) ?_ w.heap.size 0 ?_ (Array.toList #[.int .i64 e.view, .int .i64 e.opn, .int .i64 e.under, .int .u64 (e.parent : Int), .int .i64 e.client, .int .i64 e.session, .int .i64 e.request, .int .i64 e.oper, .string e.body]) _ (fun W hW => Row.range (HEF.out.below hW HEF.out.lt)) Tryd.underlying24 rfl (by exact HZE.out)
    all_goals kernel_rfl
  simp only [Act.put]
  refine wpAnyH_ready (rs := [20]) (by kernel_rfl) (by simp) ?_
  refine AllReadyH.cons rfl (fun K hK => ?_) AllReadyH.nil
  rw [if_pos (by kernel_rfl)]
  go_simp
  go_at_call 16
  refine (HSt.out _ (HFd.out.below (HBE.out.trans (hH.mono HBE.out.size)) HFd.out.1)).mono ?_
  rintro x1 w7 ⟨rfl, hb7⟩
  go_wp2_with fail
  refine hK.out _ _ (hH.trans (hb7.mono hH.size)) (fun hH => ?_)
  clear hK K
  try simp only [Act.put]
  refine wpAnyH_ready (rs := [22]) (by kernel_rfl) (by simp) ?_
  refine AllReadyH.cons rfl (fun K hK => ?_) AllReadyH.nil
  rw [if_pos (by kernel_rfl)]
  go_simp
  go_at_call 17
  refine (HSr.out _).mono ?_
  rintro x1 w8 ⟨rfl, hb8⟩
  go_wp2_with fail
  refine hK.out _ _ (hH.trans (hb8.mono hH.size)) (fun hH => ?_)
  clear hK K
  try simp only [Act.put]
  refine wpAnyH_take (i := 23) (v := .bool (!true)) rfl (by kernel_rfl) (by kernel_rfl) (by kernel_rfl) (fun _ _ _ h => h) (yields_nes (by kernel_rfl) t t true (hid (by simp)) (.tmp 77) (.tmp 79) _ rfl (by kernel_rfl) (by kernel_rfl)) hH ?_
  simp only [Act.put]
  refine wpAnyH_take (i := 24) (v := .bool false) rfl (by kernel_rfl) (by kernel_rfl) (by kernel_rfl) (fun _ _ _ h => h) (Or.inl ⟨by kernel_rfl, fun w' _ => by kernel_rfl⟩) hH ?_
  simp only [Act.put]
  refine wpAnyH_take (i := 25) (v := .bool false) rfl (by kernel_rfl) (by kernel_rfl) (by kernel_rfl) (fun _ _ _ h => h) (Or.inl ⟨by kernel_rfl, fun w' _ => by kernel_rfl⟩) hH ?_
  simp only [Act.put]
  refine wpAnyH_take (i := 26) (v := .string old) rfl (by kernel_rfl) (by kernel_rfl) (by kernel_rfl) (fun _ _ _ h => h) (Or.inl ⟨by kernel_rfl, fun w' _ => by kernel_rfl⟩) hH ?_
  simp only [Act.put]
  refine wpAnyH_take (i := 28) (v := .string old) rfl (by kernel_rfl) (by kernel_rfl) (by kernel_rfl) (fun _ _ _ h => h) (Or.inl ⟨by kernel_rfl, fun w' _ => by kernel_rfl⟩) hH ?_
  simp only [Act.put]
  refine wpAnyH_ready (rs := [27]) (by kernel_rfl) (by simp) ?_
  refine AllReadyH.cons rfl (fun K hK => ?_) AllReadyH.nil
  rw [if_pos (by kernel_rfl)]
  go_simp
  go_at_call 18
  refine (HV.out _).mono ?_
  rintro x1 w9 ⟨rfl, hb9⟩
  go_wp2_with fail
  refine hK.out _ _ (hH.trans (hb9.mono hH.size)) (fun hH => ?_)
  clear hK K
  try simp only [Act.put]
  refine wpAnyH_ready (rs := [29]) (by kernel_rfl) (by simp) ?_
  refine AllReadyH.cons rfl (fun K hK => ?_) AllReadyH.nil
  rw [if_pos (by kernel_rfl)]
  go_simp
  go_at_call 19
  refine (HVr.out _).mono ?_
  rintro x1 w10 ⟨rfl, hb10⟩
  go_wp2_with fail
  refine hK.out _ _ (hH.trans (hb10.mono hH.size)) (fun hH => ?_)
  clear hK K
  try simp only [Act.put]
  refine wpAnyH_take (i := 30) (v := .bool false) rfl (by kernel_rfl) (by kernel_rfl) (by kernel_rfl) (fun _ _ _ h => h) (Or.inl ⟨by kernel_rfl, fun w' hw' => by clear hw'; go_simp⟩) hH ?_
  simp only [Act.put]
  refine wpAnyH_take (i := 31) (v := .bool false) rfl (by kernel_rfl) (by kernel_rfl) (by kernel_rfl) (fun _ _ _ h => h) (Or.inl ⟨by kernel_rfl, fun w' _ => by kernel_rfl⟩) hH ?_
  simp only [Act.put]
  refine wpAnyH_done (by kernel_rfl) ?_ _
  try simp only [Act.put]
  have hbe := HBE.out.trans (hH.mono HBE.out.size)
  have hre := HEF.out.below hH HEF.out.lt
  have hrs := HSF.out.below hH HSF.out.lt
  clear hb7 hb8 hb9 hb10 hH
  go_wp2_with (first
    | (go_at_call_of 20 (Value.string P); refine (HEn.out _ (HFd.out.below hbe HFd.out.1)).mono ?_; rintro x1 wa ⟨rfl, hbq⟩; replace hre := hre.below hbq hre.lt; replace hrs := hrs.below hbq hrs.lt; replace hbe := hbe.trans (hbq.mono hbe.size); clear hbq)
    | ((with_reducible show wpList _ _ _ ({ dst := none, op := .store _ (.tmp 15) (.tmp 92), type := _, pos := _, after := _, guard := _ } :: _) _ _); refine wpl_store_st rfl (.tmp 15) (.tmp 92) rfl (n := 9) HZE.out wa.heap.size #[.int .i64 0, .int .i64 0, .int .i64 0, .int .u64 0, .int .i64 0, .int .i64 0, .int .i64 0, .int .i64 0, .string ⟨#[]⟩] #[.int .i64 x.view, .int .i64 x.opn, .int .i64 x.under, .int .u64 (x.parent : Int), .int .i64 x.client, .int .i64 x.session, .int .i64 x.request, .int .i64 x.oper, .string x.body] rfl rfl (Row.new _ _ _) ?_ (hid rfl) (hid rfl) (hid (ecells_one _)); intro wz hrx HBa; replace hre := (hre.alloc (.cells #[.int .i64 0, .int .i64 0, .int .i64 0, .int .u64 0, .int .i64 0, .int .i64 0, .int .i64 0, .int .i64 0, .string ⟨#[]⟩] 24)).grown HBa (by have := hre.lt; intro e; have := Option.some.inj e; omega); replace hrs := (hrs.alloc (.cells #[.int .i64 0, .int .i64 0, .int .i64 0, .int .u64 0, .int .i64 0, .int .i64 0, .int .i64 0, .int .i64 0, .string ⟨#[]⟩] 24)).grown HBa (by have := hrs.lt; intro e; have := Option.some.inj e; omega); replace hbe := (hbe.alloc hbe.size (.cells #[.int .i64 0, .int .i64 0, .int .i64 0, .int .u64 0, .int .i64 0, .int .i64 0, .int .i64 0, .int .i64 0, .string ⟨#[]⟩] 24)).trans (below_grown HBa hbe.size (by have := hbe.size; simp; omega)))
    | (go_at_call 21; refine (HSb.out _).mono ?_; rintro x1 wb ⟨rfl, hbq⟩; replace hre := hre.below hbq hre.lt; replace hrs := hrs.below hbq hrs.lt; replace hrx := hrx.below hbq hrx.lt; replace hbe := hbe.trans (hbq.mono hbe.size); clear hbq)
    | ((with_reducible show wpList _ _ _ ({ dst := none, op := .store _ (.tmp 18) (.tmp 98), type := _, pos := _, after := _, guard := _ } :: _) _ _); refine wpl_store_st rfl (.tmp 18) (.tmp 98) rfl (n := 5) HZS.out wb.heap.size #[.int .i64 0, .int .i64 0, .int .i64 0, .int .u64 0, .int .u64 0] #[.int .i64 s.opn, .int .i64 s.view, .int .i64 s.under, .int .u64 (s.parent : Int), .int .u64 (s.sum : Int)] rfl rfl (Row.new _ _ _) ?_ (hid rfl) (hid rfl) (hid (stcells_one _)); intro wz hry HBb; replace hre := (hre.alloc (.cells #[.int .i64 0, .int .i64 0, .int .i64 0, .int .u64 0, .int .u64 0] 26)).grown HBb (by have := hre.lt; intro e; have := Option.some.inj e; omega); replace hrs := (hrs.alloc (.cells #[.int .i64 0, .int .i64 0, .int .i64 0, .int .u64 0, .int .u64 0] 26)).grown HBb (by have := hrs.lt; intro e; have := Option.some.inj e; omega); replace hrx := (hrx.alloc (.cells #[.int .i64 0, .int .i64 0, .int .i64 0, .int .u64 0, .int .u64 0] 26)).grown HBb (by have := hrx.lt; intro e; have := Option.some.inj e; omega); replace hbe := (hbe.alloc hbe.size (.cells #[.int .i64 0, .int .i64 0, .int .i64 0, .int .u64 0, .int .u64 0] 26)).trans (below_grown HBb hbe.size (by have := hbe.size; simp; omega)))
    | ((with_reducible show wpList _ _ _ ({ dst := _, op := .load 26 (.tmp 18), type := _, pos := _, after := _, guard := _ } :: _) _ _); refine wpl_load_want rfl 26 (.tmp 18) rfl wb.heap.size rfl 26 #[.int .i64 s.opn, .int .i64 s.view, .int .i64 s.under, .int .u64 (s.parent : Int), .int .u64 (s.sum : Int)] (0, 0) _ (Row.arr (cs := #[.int .i64 s.opn, .int .i64 s.view, .int .i64 s.under, .int .u64 (s.parent : Int), .int .u64 (s.sum : Int)]) hry) Tryd.underlying26 rfl HZS.out ?_)
    | ((with_reducible show wpList _ _ _ ({ dst := _, op := .load 26 (.tmp 5), type := _, pos := _, after := _, guard := _ } :: _) _ _); refine wpl_load_want rfl 26 (.tmp 5) rfl (w.heap.size + 1) rfl 26 #[.int .i64 s.opn, .int .i64 s.view, .int .i64 s.under, .int .u64 (s.parent : Int), .int .u64 (s.sum : Int)] (0, 0) _ (Row.arr (cs := #[.int .i64 s.opn, .int .i64 s.view, .int .i64 s.under, .int .u64 (s.parent : Int), .int .u64 (s.sum : Int)]) hrs) Tryd.underlying26 rfl HZS.out ?_)
    | ((with_reducible show wpList _ _ _ ({ dst := some 122, op := _, type := _, pos := _, after := _, guard := _ } :: _) _ _); refine wpl_nes rfl s s true (.tmp 120) (.tmp 121) _ rfl rfl rfl (hid (by simp)) ?_)
    | (go_at_call 18; refine (HV.out _).mono ?_; rintro x1 wq ⟨rfl, hbq⟩; replace hre := hre.below hbq hre.lt; replace hrs := hrs.below hbq hrs.lt; replace hrx := hrx.below hbq hrx.lt; replace hry := hry.below hbq hry.lt; replace hbe := hbe.trans (hbq.mono hbe.size); clear hbq)
    | (go_at_call_of 20 (Value.string V); refine (HEv.out _ (HFd.out.below hbe HFd.out.1)).mono ?_; rintro x1 wc ⟨rfl, hbq⟩; replace hre := hre.below hbq hre.lt; replace hrs := hrs.below hbq hrs.lt; replace hrx := hrx.below hbq hrx.lt; replace hry := hry.below hbq hry.lt; replace hbe := hbe.trans (hbq.mono hbe.size); clear hbq)
    | ((with_reducible show wpList _ _ _ ({ dst := none, op := .store _ (.tmp 21) (.tmp 137), type := _, pos := _, after := _, guard := _ } :: _) _ _); refine wpl_store_st rfl (.tmp 21) (.tmp 137) rfl (n := 9) HZE.out wc.heap.size #[.int .i64 0, .int .i64 0, .int .i64 0, .int .u64 0, .int .i64 0, .int .i64 0, .int .i64 0, .int .i64 0, .string ⟨#[]⟩] #[.int .i64 0, .int .i64 0, .int .i64 0, .int .u64 0, .int .i64 0, .int .i64 0, .int .i64 0, .int .i64 0, .string ⟨#[]⟩] rfl rfl (Row.new _ _ _) ?_ (hid rfl) (hid rfl) (hid (ezero_one)); intro wz hrv HBc; replace hre := (hre.alloc (.cells #[.int .i64 0, .int .i64 0, .int .i64 0, .int .u64 0, .int .i64 0, .int .i64 0, .int .i64 0, .int .i64 0, .string ⟨#[]⟩] 24)).grown HBc (by have := hre.lt; intro e; have := Option.some.inj e; omega); replace hrs := (hrs.alloc (.cells #[.int .i64 0, .int .i64 0, .int .i64 0, .int .u64 0, .int .i64 0, .int .i64 0, .int .i64 0, .int .i64 0, .string ⟨#[]⟩] 24)).grown HBc (by have := hrs.lt; intro e; have := Option.some.inj e; omega); replace hrx := (hrx.alloc (.cells #[.int .i64 0, .int .i64 0, .int .i64 0, .int .u64 0, .int .i64 0, .int .i64 0, .int .i64 0, .int .i64 0, .string ⟨#[]⟩] 24)).grown HBc (by have := hrx.lt; intro e; have := Option.some.inj e; omega); replace hry := (hry.alloc (.cells #[.int .i64 0, .int .i64 0, .int .i64 0, .int .u64 0, .int .i64 0, .int .i64 0, .int .i64 0, .int .i64 0, .string ⟨#[]⟩] 24)).grown HBc (by have := hry.lt; intro e; have := Option.some.inj e; omega); replace hbe := (hbe.alloc hbe.size (.cells #[.int .i64 0, .int .i64 0, .int .i64 0, .int .u64 0, .int .i64 0, .int .i64 0, .int .i64 0, .int .i64 0, .string ⟨#[]⟩] 24)).trans (below_grown HBc hbe.size (by have := hbe.size; simp; omega))))
  go_ret
  exact ⟨rfl, hbe⟩
set_option maxHeartbeats 2000000 in
theorem lays_44 (old P H V : ByteArray) (e x : En) (s t y : St) (b1 b2 c1 c2 : Bool) (w : World) (hf : Fd w) (HAW : Hid (∀ W, Fd W → Calls Tryd.prog 10 #[] W (Yes W)))
    (HLb : Hid (∀ W, Calls Tryd.prog 11 #[.string e.body] W fun x w' => x = .returned (.bool false) ∧ W = w'))
    (HLo : Hid (∀ W, Calls Tryd.prog 11 #[.string old] W fun x w' => x = .returned (.bool false) ∧ W = w'))
    (HP : Hid (∀ W, Fd W → Calls Tryd.prog 12 #[.string old, .agg #[.int .i64 e.view, .int .i64 e.opn, .int .i64 e.under, .int .u64 (e.parent : Int), .int .i64 e.client, .int .i64 e.session, .int .i64 e.request, .int .i64 e.oper, .string e.body]] W fun y w' => y = .returned (.tuple #[.string P, .int .i64 4]) ∧ Below W.heap.size W w'))
    (HQ : Hid (∀ W, Calls Tryd.prog 13 #[.string old, .agg #[.int .i64 e.view, .int .i64 e.opn, .int .i64 e.under, .int .u64 (e.parent : Int), .int .i64 e.client, .int .i64 e.session, .int .i64 e.request, .int .i64 e.oper, .string e.body]] W fun y w' => y = .returned (.tuple #[.string P, .int .i64 4]) ∧ Below W.heap.size W w'))
    (HH : Hid (∀ W, Calls Tryd.prog 14 #[.string old, .agg #[.int .i64 s.opn, .int .i64 s.view, .int .i64 s.under, .int .u64 (s.parent : Int), .int .u64 (s.sum : Int)]] W fun y w' => y = .returned (.tuple #[.string H, .int .i64 4]) ∧ Below W.heap.size W w'))
    (HK : Hid (∀ W, Calls Tryd.prog 15 #[.string old, .agg #[.int .i64 s.opn, .int .i64 s.view, .int .i64 s.under, .int .u64 (s.parent : Int), .int .u64 (s.sum : Int)]] W fun y w' => y = .returned (.tuple #[.string H, .int .i64 4]) ∧ Below W.heap.size W w'))
    (HSt : Hid (∀ W, Fd W → Calls Tryd.prog 16 #[.agg #[.int .i64 e.view, .int .i64 e.opn, .int .i64 e.under, .int .u64 (e.parent : Int), .int .i64 e.client, .int .i64 e.session, .int .i64 e.request, .int .i64 e.oper, .string e.body]] W (VE W (.agg #[.int .i64 t.opn, .int .i64 t.view, .int .i64 t.under, .int .u64 (t.parent : Int), .int .u64 (t.sum : Int)]))))
    (HSr : Hid (∀ W, Calls Tryd.prog 17 #[.agg #[.int .i64 e.view, .int .i64 e.opn, .int .i64 e.under, .int .u64 (e.parent : Int), .int .i64 e.client, .int .i64 e.session, .int .i64 e.request, .int .i64 e.oper, .string e.body]] W (VE W (.agg #[.int .i64 t.opn, .int .i64 t.view, .int .i64 t.under, .int .u64 (t.parent : Int), .int .u64 (t.sum : Int)]))))
    (HV : Hid (∀ W, Calls Tryd.prog 18 #[.string old] W fun y w' => y = .returned (.string V) ∧ Below W.heap.size W w'))
    (HVr : Hid (∀ W, Calls Tryd.prog 19 #[.string old] W fun y w' => y = .returned (.string V) ∧ Below W.heap.size W w'))
    (HEn : Hid (∀ W, Fd W → Calls Tryd.prog 20 #[.string P] W (LQ W #[.int .i64 x.view, .int .i64 x.opn, .int .i64 x.under, .int .u64 (x.parent : Int), .int .i64 x.client, .int .i64 x.session, .int .i64 x.request, .int .i64 x.oper, .string x.body] b1 b2)))
    (HSb : Hid (∀ W, Calls Tryd.prog 21 #[.string H] W (LQ W #[.int .i64 y.opn, .int .i64 y.view, .int .i64 y.under, .int .u64 (y.parent : Int), .int .u64 (y.sum : Int)] c1 c2)))
    (HEv : Hid (∀ W, Fd W → Calls Tryd.prog 20 #[.string V] W (LQ W #[.int .i64 0, .int .i64 0, .int .i64 0, .int .u64 0, .int .i64 0, .int .i64 0, .int .i64 0, .int .i64 0, .string ⟨#[]⟩] false true))) :
    Calls Tryd.prog 3 #[.string old, .agg #[.int .i64 e.view, .int .i64 e.opn, .int .i64 e.under, .int .u64 (e.parent : Int), .int .i64 e.client, .int .i64 e.session, .int .i64 e.request, .int .i64 e.oper, .string e.body], .agg #[.int .i64 s.opn, .int .i64 s.view, .int .i64 s.under, .int .u64 (s.parent : Int), .int .u64 (s.sum : Int)]] w (Yes w) := by
  have HZE := hid esize
  have HZS := hid stsize
  have HFd := hid hf
  clear hf
  go_enter Tryd.func3, Tryd.ntmps3
  go_wp2_with (first
    | (go_at_call 10; refine (HAW.out _ (HFd.out.below (((Below.refl w.heap.size w).alloc (Nat.le_refl _) _).alloc (by simp) _) HFd.out.1)).mono ?_; rintro x1 w1 ⟨rfl, hbq⟩; have hre := ((Row.new w 24 #[.int .i64 e.view, .int .i64 e.opn, .int .i64 e.under, .int .u64 (e.parent : Int), .int .i64 e.client, .int .i64 e.session, .int .i64 e.request, .int .i64 e.oper, .string e.body]).alloc (.cells #[.int .i64 s.opn, .int .i64 s.view, .int .i64 s.under, .int .u64 (s.parent : Int), .int .u64 (s.sum : Int)] 26)).below hbq (by simp; omega); have hrs : Row w1 (w.heap.size + 1) 26 (Array.toList #[.int .i64 s.opn, .int .i64 s.view, .int .i64 s.under, .int .u64 (s.parent : Int), .int .u64 (s.sum : Int)]) := Row.below (B := w.heap.size + 1 + 1) (alloc2_new _ _ _) (hbq.mono (by simp)) (by omega); have hbe := (((Below.refl w.heap.size w).alloc (Nat.le_refl _) (.cells #[.int .i64 e.view, .int .i64 e.opn, .int .i64 e.under, .int .u64 (e.parent : Int), .int .i64 e.client, .int .i64 e.session, .int .i64 e.request, .int .i64 e.oper, .string e.body] 24)).alloc (by simp) (.cells #[.int .i64 s.opn, .int .i64 s.view, .int .i64 s.under, .int .u64 (s.parent : Int), .int .u64 (s.sum : Int)] 26)).trans (hbq.mono (by simp; omega)); have he8 := hre.at_ 8 _ rfl; clear hbq)
    | (go_at_call_of 11 (Value.string e.body); refine (HLb.out _).mono ?_; rintro x1 wq ⟨rfl, rfl⟩)
    | (go_at_call_of 11 (Value.string old); refine (HLo.out _).mono ?_; rintro x1 wq ⟨rfl, rfl⟩)
    | ((with_reducible show wpList _ _ _ ({ dst := _, op := .load 24 (.tmp 4), type := _, pos := _, after := _, guard := _ } :: _) _ _); refine wpl_load_want rfl 24 (.tmp 4) rfl w.heap.size rfl 24 #[.int .i64 e.view, .int .i64 e.opn, .int .i64 e.under, .int .u64 (e.parent : Int), .int .i64 e.client, .int .i64 e.session, .int .i64 e.request, .int .i64 e.oper, .string e.body] (0, 0) _ (Row.arr (cs := #[.int .i64 e.view, .int .i64 e.opn, .int .i64 e.under, .int .u64 (e.parent : Int), .int .i64 e.client, .int .i64 e.session, .int .i64 e.request, .int .i64 e.oper, .string e.body]) hre) Tryd.underlying24 rfl HZE.out ?_)
    | ((with_reducible show wpList _ _ _ ({ dst := _, op := .load 26 (.tmp 5), type := _, pos := _, after := _, guard := _ } :: _) _ _); refine wpl_load_want rfl 26 (.tmp 5) rfl (w.heap.size + 1) rfl 26 #[.int .i64 s.opn, .int .i64 s.view, .int .i64 s.under, .int .u64 (s.parent : Int), .int .u64 (s.sum : Int)] (0, 0) _ (Row.arr (cs := #[.int .i64 s.opn, .int .i64 s.view, .int .i64 s.under, .int .u64 (s.parent : Int), .int .u64 (s.sum : Int)]) hrs) Tryd.underlying26 rfl HZS.out ?_)
    | (go_at_call 12; refine (HP.out _ (HFd.out.below hbe HFd.out.1)).mono ?_; rintro x1 wq ⟨rfl, hbq⟩; replace hre := hre.below hbq hre.lt; replace hrs := hrs.below hbq hrs.lt; replace hbe := hbe.trans (hbq.mono hbe.size); clear hbq)
    | (go_at_call 13; refine (HQ.out _).mono ?_; rintro x1 wq ⟨rfl, hbq⟩; replace hre := hre.below hbq hre.lt; replace hrs := hrs.below hbq hrs.lt; replace hbe := hbe.trans (hbq.mono hbe.size); clear hbq)
    | (go_at_call 14; refine (HH.out _).mono ?_; rintro x1 wq ⟨rfl, hbq⟩; replace hre := hre.below hbq hre.lt; replace hrs := hrs.below hbq hrs.lt; replace hbe := hbe.trans (hbq.mono hbe.size); clear hbq)
    | (go_at_call 15; refine (HK.out _).mono ?_; rintro x1 wq ⟨rfl, hbq⟩; replace hre := hre.below hbq hre.lt; replace hrs := hrs.below hbq hrs.lt; replace hbe := hbe.trans (hbq.mono hbe.size); clear hbq))
  refine name_wpS (fun w6 hw6 => ?_)
  rw [← hw6] at hbe hre hrs
  clear hw6 he8
  have HBE := hid hbe
  have HEF := hid hre
  have HSF := hid hrs
  clear hbe hre hrs
  refine wp_region_held_drew (S := fun W => Below w6.heap.size w6 W) (by kernel_rfl) ((Below.refl _ _).drew) (fun hH => ?_)
  refine wpAnyH_take (i := 0) (v := .string P) rfl (by kernel_rfl) (by kernel_rfl) (by kernel_rfl) (fun _ _ _ h => h) (Or.inl ⟨by rfl, fun w' hw' => by clear hw'; go_simp⟩) hH ?_
  simp only [Act.put]
  refine wpAnyH_take (i := 1) (v := .string P) rfl (by kernel_rfl) (by kernel_rfl) (by kernel_rfl) (fun _ _ _ h => h) (Or.inl ⟨by rfl, fun w' hw' => by clear hw'; go_simp⟩) hH ?_
  simp only [Act.put]
  refine wpAnyH_take (i := 2) (v := .bool false) rfl (by kernel_rfl) (by kernel_rfl) (by kernel_rfl) (fun _ _ _ h => h) (Or.inl ⟨by rfl, fun w' hw' => by clear hw'; go_simp⟩) hH ?_
  simp only [Act.put]
  refine wpAnyH_take (i := 3) (v := .bool false) rfl (by kernel_rfl) (by kernel_rfl) (by kernel_rfl) (fun _ _ _ h => h) (Or.inl ⟨by rfl, fun w' hw' => by clear hw'; go_simp⟩) hH ?_
  simp only [Act.put]
  refine wpAnyH_take (i := 4) (v := .int .i64 4) rfl (by kernel_rfl) (by kernel_rfl) (by kernel_rfl) (fun _ _ _ h => h) (Or.inl ⟨by kernel_rfl, fun w' hw' => by clear hw'; go_simp⟩) hH ?_
  simp only [Act.put]
  refine wpAnyH_take (i := 5) (v := .int .i64 4) rfl (by kernel_rfl) (by kernel_rfl) (by kernel_rfl) (fun _ _ _ h => h) (Or.inl ⟨by kernel_rfl, fun w' hw' => by clear hw'; go_simp⟩) hH ?_
  simp only [Act.put]
  refine wpAnyH_take (i := 6) (v := .bool false) rfl (by kernel_rfl) (by kernel_rfl) (by kernel_rfl) (fun _ _ _ h => h) (Or.inl ⟨by kernel_rfl, fun w' hw' => by clear hw'; go_simp⟩) hH ?_
  simp only [Act.put]
  refine wpAnyH_take (i := 7) (v := .bool false) rfl (by kernel_rfl) (by kernel_rfl) (by kernel_rfl) (fun _ _ _ h => h) (Or.inl ⟨by rfl, fun w' hw' => by clear hw'; go_simp⟩) hH ?_
  simp only [Act.put]
  refine wpAnyH_take (i := 8) (v := .bool false) rfl (by kernel_rfl) (by kernel_rfl) (by kernel_rfl) (fun _ _ _ h => h) (Or.inl ⟨by rfl, fun w' hw' => by clear hw'; go_simp⟩) hH ?_
  simp only [Act.put]
  refine wpAnyH_take (i := 9) (v := .string H) rfl (by kernel_rfl) (by kernel_rfl) (by kernel_rfl) (fun _ _ _ h => h) (Or.inl ⟨by kernel_rfl, fun w' hw' => by clear hw'; go_simp⟩) hH ?_
  simp only [Act.put]
  refine wpAnyH_take (i := 10) (v := .string H) rfl (by kernel_rfl) (by kernel_rfl) (by kernel_rfl) (fun _ _ _ h => h) (Or.inl ⟨by kernel_rfl, fun w' hw' => by clear hw'; go_simp⟩) hH ?_
  simp only [Act.put]
  refine wpAnyH_take (i := 11) (v := .bool false) rfl (by kernel_rfl) (by kernel_rfl) (by kernel_rfl) (fun _ _ _ h => h) (Or.inl ⟨by kernel_rfl, fun w' hw' => by clear hw'; go_simp⟩) hH ?_
  simp only [Act.put]
  refine wpAnyH_take (i := 12) (v := .bool false) rfl (by kernel_rfl) (by kernel_rfl) (by kernel_rfl) (fun _ _ _ h => h) (Or.inl ⟨by rfl, fun w' hw' => by clear hw'; go_simp⟩) hH ?_
  simp only [Act.put]
  refine wpAnyH_take (i := 13) (v := .bool false) rfl (by kernel_rfl) (by kernel_rfl) (by kernel_rfl) (fun _ _ _ h => h) (Or.inl ⟨by rfl, fun w' hw' => by clear hw'; go_simp⟩) hH ?_
  simp only [Act.put]
  refine wpAnyH_take (i := 14) (v := .int .i64 4) rfl (by kernel_rfl) (by kernel_rfl) (by kernel_rfl) (fun _ _ _ h => h) (Or.inl ⟨by kernel_rfl, fun w' hw' => by clear hw'; go_simp⟩) hH ?_
  simp only [Act.put]
  refine wpAnyH_take (i := 15) (v := .int .i64 4) rfl (by kernel_rfl) (by kernel_rfl) (by kernel_rfl) (fun _ _ _ h => h) (Or.inl ⟨by kernel_rfl, fun w' hw' => by clear hw'; go_simp⟩) hH ?_
  simp only [Act.put]
  refine wpAnyH_take (i := 16) (v := .bool false) rfl (by kernel_rfl) (by kernel_rfl) (by kernel_rfl) (fun _ _ _ h => h) (Or.inl ⟨by kernel_rfl, fun w' hw' => by clear hw'; go_simp⟩) hH ?_
  simp only [Act.put]
  refine wpAnyH_take (i := 17) (v := .bool false) rfl (by kernel_rfl) (by kernel_rfl) (by kernel_rfl) (fun _ _ _ h => h) (Or.inl ⟨by rfl, fun w' hw' => by clear hw'; go_simp⟩) hH ?_
  simp only [Act.put]
  refine wpAnyH_take (i := 18) (v := .bool false) rfl (by kernel_rfl) (by kernel_rfl) (by kernel_rfl) (fun _ _ _ h => h) (Or.inl ⟨by rfl, fun w' hw' => by clear hw'; go_simp⟩) hH ?_
  simp only [Act.put]
  refine wpAnyH_take (i := 19) (v := .agg #[.int .i64 e.view, .int .i64 e.opn, .int .i64 e.under, .int .u64 (e.parent : Int), .int .i64 e.client, .int .i64 e.session, .int .i64 e.request, .int .i64 e.oper, .string e.body]) rfl (by kernel_rfl) (by kernel_rfl) (by kernel_rfl) (fun _ _ _ h => h) ?_ hH ?_
  · refine yieldsIf_load_mid ?_ 24 (.tmp 4) ?_ w.heap.size 0 ?_ (Array.toList #[.int .i64 e.view, .int .i64 e.opn, .int .i64 e.under, .int .u64 (e.parent : Int), .int .i64 e.client, .int .i64 e.session, .int .i64 e.request, .int .i64 e.oper, .string e.body]) _ (fun W hW => Row.range (HEF.out.below hW HEF.out.lt)) Tryd.underlying24 rfl (by exact HZE.out)
    all_goals kernel_rfl
  simp only [Act.put]
  refine wpAnyH_take (i := 21) (v := .agg #[.int .i64 e.view, .int .i64 e.opn, .int .i64 e.under, .int .u64 (e.parent : Int), .int .i64 e.client, .int .i64 e.session, .int .i64 e.request, .int .i64 e.oper, .string e.body]) rfl (by kernel_rfl) (by kernel_rfl) (by kernel_rfl) (fun _ _ _ h => h) ?_ hH ?_
  · refine yieldsIf_load_mid ?_ 24 (.tmp 4) ?_ w.heap.size 0 ?_ (Array.toList #[.int .i64 e.view, .int .i64 e.opn, .int .i64 e.under, .int .u64 (e.parent : Int), .int .i64 e.client, .int .i64 e.session, .int .i64 e.request, .int .i64 e.oper, .string e.body]) _ (fun W hW => Row.range (HEF.out.below hW HEF.out.lt)) Tryd.underlying24 rfl (by exact HZE.out)
    all_goals kernel_rfl
  simp only [Act.put]
  refine wpAnyH_ready (rs := [20]) (by kernel_rfl) (by simp) ?_
  refine AllReadyH.cons rfl (fun K hK => ?_) AllReadyH.nil
  rw [if_pos (by kernel_rfl)]
  go_simp
  go_at_call 16
  refine (HSt.out _ (HFd.out.below (HBE.out.trans (hH.mono HBE.out.size)) HFd.out.1)).mono ?_
  rintro x1 w7 ⟨rfl, hb7⟩
  go_wp2_with fail
  refine hK.out _ _ (hH.trans (hb7.mono hH.size)) (fun hH => ?_)
  clear hK K
  try simp only [Act.put]
  refine wpAnyH_ready (rs := [22]) (by kernel_rfl) (by simp) ?_
  refine AllReadyH.cons rfl (fun K hK => ?_) AllReadyH.nil
  rw [if_pos (by kernel_rfl)]
  go_simp
  go_at_call 17
  refine (HSr.out _).mono ?_
  rintro x1 w8 ⟨rfl, hb8⟩
  go_wp2_with fail
  refine hK.out _ _ (hH.trans (hb8.mono hH.size)) (fun hH => ?_)
  clear hK K
  try simp only [Act.put]
  refine wpAnyH_take (i := 23) (v := .bool (!true)) rfl (by kernel_rfl) (by kernel_rfl) (by kernel_rfl) (fun _ _ _ h => h) (yields_nes (by kernel_rfl) t t true (hid (by simp)) (.tmp 77) (.tmp 79) _ rfl (by kernel_rfl) (by kernel_rfl)) hH ?_
  simp only [Act.put]
  refine wpAnyH_take (i := 24) (v := .bool false) rfl (by kernel_rfl) (by kernel_rfl) (by kernel_rfl) (fun _ _ _ h => h) (Or.inl ⟨by kernel_rfl, fun w' _ => by kernel_rfl⟩) hH ?_
  simp only [Act.put]
  refine wpAnyH_take (i := 25) (v := .bool false) rfl (by kernel_rfl) (by kernel_rfl) (by kernel_rfl) (fun _ _ _ h => h) (Or.inl ⟨by kernel_rfl, fun w' _ => by kernel_rfl⟩) hH ?_
  simp only [Act.put]
  refine wpAnyH_take (i := 26) (v := .string old) rfl (by kernel_rfl) (by kernel_rfl) (by kernel_rfl) (fun _ _ _ h => h) (Or.inl ⟨by kernel_rfl, fun w' _ => by kernel_rfl⟩) hH ?_
  simp only [Act.put]
  refine wpAnyH_take (i := 28) (v := .string old) rfl (by kernel_rfl) (by kernel_rfl) (by kernel_rfl) (fun _ _ _ h => h) (Or.inl ⟨by kernel_rfl, fun w' _ => by kernel_rfl⟩) hH ?_
  simp only [Act.put]
  refine wpAnyH_ready (rs := [27]) (by kernel_rfl) (by simp) ?_
  refine AllReadyH.cons rfl (fun K hK => ?_) AllReadyH.nil
  rw [if_pos (by kernel_rfl)]
  go_simp
  go_at_call 18
  refine (HV.out _).mono ?_
  rintro x1 w9 ⟨rfl, hb9⟩
  go_wp2_with fail
  refine hK.out _ _ (hH.trans (hb9.mono hH.size)) (fun hH => ?_)
  clear hK K
  try simp only [Act.put]
  refine wpAnyH_ready (rs := [29]) (by kernel_rfl) (by simp) ?_
  refine AllReadyH.cons rfl (fun K hK => ?_) AllReadyH.nil
  rw [if_pos (by kernel_rfl)]
  go_simp
  go_at_call 19
  refine (HVr.out _).mono ?_
  rintro x1 w10 ⟨rfl, hb10⟩
  go_wp2_with fail
  refine hK.out _ _ (hH.trans (hb10.mono hH.size)) (fun hH => ?_)
  clear hK K
  try simp only [Act.put]
  refine wpAnyH_take (i := 30) (v := .bool false) rfl (by kernel_rfl) (by kernel_rfl) (by kernel_rfl) (fun _ _ _ h => h) (Or.inl ⟨by kernel_rfl, fun w' hw' => by clear hw'; go_simp⟩) hH ?_
  simp only [Act.put]
  refine wpAnyH_take (i := 31) (v := .bool false) rfl (by kernel_rfl) (by kernel_rfl) (by kernel_rfl) (fun _ _ _ h => h) (Or.inl ⟨by kernel_rfl, fun w' _ => by kernel_rfl⟩) hH ?_
  simp only [Act.put]
  refine wpAnyH_done (by kernel_rfl) ?_ _
  try simp only [Act.put]
  have hbe := HBE.out.trans (hH.mono HBE.out.size)
  have hre := HEF.out.below hH HEF.out.lt
  have hrs := HSF.out.below hH HSF.out.lt
  clear hb7 hb8 hb9 hb10 hH
  go_wp2_with (first
    | (go_at_call_of 20 (Value.string P); refine (HEn.out _ (HFd.out.below hbe HFd.out.1)).mono ?_; rintro x1 wa ⟨rfl, hbq⟩; replace hre := hre.below hbq hre.lt; replace hrs := hrs.below hbq hrs.lt; replace hbe := hbe.trans (hbq.mono hbe.size); clear hbq)
    | ((with_reducible show wpList _ _ _ ({ dst := none, op := .store _ (.tmp 15) (.tmp 92), type := _, pos := _, after := _, guard := _ } :: _) _ _); refine wpl_store_st rfl (.tmp 15) (.tmp 92) rfl (n := 9) HZE.out wa.heap.size #[.int .i64 0, .int .i64 0, .int .i64 0, .int .u64 0, .int .i64 0, .int .i64 0, .int .i64 0, .int .i64 0, .string ⟨#[]⟩] #[.int .i64 x.view, .int .i64 x.opn, .int .i64 x.under, .int .u64 (x.parent : Int), .int .i64 x.client, .int .i64 x.session, .int .i64 x.request, .int .i64 x.oper, .string x.body] rfl rfl (Row.new _ _ _) ?_ (hid rfl) (hid rfl) (hid (ecells_one _)); intro wz hrx HBa; replace hre := (hre.alloc (.cells #[.int .i64 0, .int .i64 0, .int .i64 0, .int .u64 0, .int .i64 0, .int .i64 0, .int .i64 0, .int .i64 0, .string ⟨#[]⟩] 24)).grown HBa (by have := hre.lt; intro e; have := Option.some.inj e; omega); replace hrs := (hrs.alloc (.cells #[.int .i64 0, .int .i64 0, .int .i64 0, .int .u64 0, .int .i64 0, .int .i64 0, .int .i64 0, .int .i64 0, .string ⟨#[]⟩] 24)).grown HBa (by have := hrs.lt; intro e; have := Option.some.inj e; omega); replace hbe := (hbe.alloc hbe.size (.cells #[.int .i64 0, .int .i64 0, .int .i64 0, .int .u64 0, .int .i64 0, .int .i64 0, .int .i64 0, .int .i64 0, .string ⟨#[]⟩] 24)).trans (below_grown HBa hbe.size (by have := hbe.size; simp; omega)))
    | (go_at_call 21; refine (HSb.out _).mono ?_; rintro x1 wb ⟨rfl, hbq⟩; replace hre := hre.below hbq hre.lt; replace hrs := hrs.below hbq hrs.lt; replace hrx := hrx.below hbq hrx.lt; replace hbe := hbe.trans (hbq.mono hbe.size); clear hbq)
    | ((with_reducible show wpList _ _ _ ({ dst := none, op := .store _ (.tmp 18) (.tmp 98), type := _, pos := _, after := _, guard := _ } :: _) _ _); refine wpl_store_st rfl (.tmp 18) (.tmp 98) rfl (n := 5) HZS.out wb.heap.size #[.int .i64 0, .int .i64 0, .int .i64 0, .int .u64 0, .int .u64 0] #[.int .i64 y.opn, .int .i64 y.view, .int .i64 y.under, .int .u64 (y.parent : Int), .int .u64 (y.sum : Int)] rfl rfl (Row.new _ _ _) ?_ (hid rfl) (hid rfl) (hid (stcells_one _)); intro wz hry HBb; replace hre := (hre.alloc (.cells #[.int .i64 0, .int .i64 0, .int .i64 0, .int .u64 0, .int .u64 0] 26)).grown HBb (by have := hre.lt; intro e; have := Option.some.inj e; omega); replace hrs := (hrs.alloc (.cells #[.int .i64 0, .int .i64 0, .int .i64 0, .int .u64 0, .int .u64 0] 26)).grown HBb (by have := hrs.lt; intro e; have := Option.some.inj e; omega); replace hrx := (hrx.alloc (.cells #[.int .i64 0, .int .i64 0, .int .i64 0, .int .u64 0, .int .u64 0] 26)).grown HBb (by have := hrx.lt; intro e; have := Option.some.inj e; omega); replace hbe := (hbe.alloc hbe.size (.cells #[.int .i64 0, .int .i64 0, .int .i64 0, .int .u64 0, .int .u64 0] 26)).trans (below_grown HBb hbe.size (by have := hbe.size; simp; omega)))
    | (go_at_call 18; refine (HV.out _).mono ?_; rintro x1 wq ⟨rfl, hbq⟩; replace hre := hre.below hbq hre.lt; replace hrs := hrs.below hbq hrs.lt; replace hrx := hrx.below hbq hrx.lt; replace hry := hry.below hbq hry.lt; replace hbe := hbe.trans (hbq.mono hbe.size); clear hbq)
    | (go_at_call_of 20 (Value.string V); refine (HEv.out _ (HFd.out.below hbe HFd.out.1)).mono ?_; rintro x1 wc ⟨rfl, hbq⟩; replace hre := hre.below hbq hre.lt; replace hrs := hrs.below hbq hrs.lt; replace hrx := hrx.below hbq hrx.lt; replace hry := hry.below hbq hry.lt; replace hbe := hbe.trans (hbq.mono hbe.size); clear hbq)
    | ((with_reducible show wpList _ _ _ ({ dst := none, op := .store _ (.tmp 21) (.tmp 137), type := _, pos := _, after := _, guard := _ } :: _) _ _); refine wpl_store_st rfl (.tmp 21) (.tmp 137) rfl (n := 9) HZE.out wc.heap.size #[.int .i64 0, .int .i64 0, .int .i64 0, .int .u64 0, .int .i64 0, .int .i64 0, .int .i64 0, .int .i64 0, .string ⟨#[]⟩] #[.int .i64 0, .int .i64 0, .int .i64 0, .int .u64 0, .int .i64 0, .int .i64 0, .int .i64 0, .int .i64 0, .string ⟨#[]⟩] rfl rfl (Row.new _ _ _) ?_ (hid rfl) (hid rfl) (hid (ezero_one)); intro wz hrv HBc; replace hre := (hre.alloc (.cells #[.int .i64 0, .int .i64 0, .int .i64 0, .int .u64 0, .int .i64 0, .int .i64 0, .int .i64 0, .int .i64 0, .string ⟨#[]⟩] 24)).grown HBc (by have := hre.lt; intro e; have := Option.some.inj e; omega); replace hrs := (hrs.alloc (.cells #[.int .i64 0, .int .i64 0, .int .i64 0, .int .u64 0, .int .i64 0, .int .i64 0, .int .i64 0, .int .i64 0, .string ⟨#[]⟩] 24)).grown HBc (by have := hrs.lt; intro e; have := Option.some.inj e; omega); replace hrx := (hrx.alloc (.cells #[.int .i64 0, .int .i64 0, .int .i64 0, .int .u64 0, .int .i64 0, .int .i64 0, .int .i64 0, .int .i64 0, .string ⟨#[]⟩] 24)).grown HBc (by have := hrx.lt; intro e; have := Option.some.inj e; omega); replace hry := (hry.alloc (.cells #[.int .i64 0, .int .i64 0, .int .i64 0, .int .u64 0, .int .i64 0, .int .i64 0, .int .i64 0, .int .i64 0, .string ⟨#[]⟩] 24)).grown HBc (by have := hry.lt; intro e; have := Option.some.inj e; omega); replace hbe := (hbe.alloc hbe.size (.cells #[.int .i64 0, .int .i64 0, .int .i64 0, .int .u64 0, .int .i64 0, .int .i64 0, .int .i64 0, .int .i64 0, .string ⟨#[]⟩] 24)).trans (below_grown HBc hbe.size (by have := hbe.size; simp; omega))))
  go_ret
  exact ⟨rfl, hbe⟩
end Go.Proofs.YtdcoiehhnllhmaaDoor
