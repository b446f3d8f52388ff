/-
  The walks of package entry's Follows, of long.
-/
import Derived.Test.YtknalgobndbngaaDoorWin
namespace Go.Proofs.YtknalgobndbngaaDoor
open Go.RowKit
set_option maxRecDepth 10000

set_option maxHeartbeats 1000000 in
theorem efol_yes (view opn under : Int) (parent : Nat) (client session request oper : Int) (body : ByteArray) (mo mv : Int) (ms : Nat) (w : World) (h1 : 1 ≤ opn) (h2 : opn ≤ 72057594037927935)
    (HR : Hid (∀ W : World, Calls Tryd.prog 11 #[.agg #[.int .i64 view, .int .i64 opn, .int .i64 under, .int .u64 (parent : Int), .int .i64 client, .int .i64 session, .int .i64 request, .int .i64 oper, .string body]] W (VE W (.bool true)))) :
    Calls Tryd.prog 17 #[.agg #[.int .i64 mo, .int .i64 mv, .int .u64 (ms : Int)], .agg #[.int .i64 view, .int .i64 opn, .int .i64 under, .int .u64 (parent : Int), .int .i64 client, .int .i64 session, .int .i64 request, .int .i64 oper, .string body]] w (VE w (.bool (decide (opn - 1 = mo) && decide (under = mv) && decide ((parent : Int) = ms)))) := by
  obtain ⟨W0, hW0⟩ : ∃ W0, W0 = (w.alloc (.cells #[.int .i64 mo, .int .i64 mv, .int .u64 (ms : Int)] 37)).alloc (.cells #[.int .i64 view, .int .i64 opn, .int .i64 under, .int .u64 (parent : Int), .int .i64 client, .int .i64 session, .int .i64 request, .int .i64 oper, .string body] 24) := ⟨_, rfl⟩
  have HB0 : Hid (Below w.heap.size w W0) := hid (by rw [hW0]; repeat' first | exact Below.refl _ _ | refine Below.alloc ?_ (by simp <;> omega) _)
  have HM0 : Hid (Row W0 w.heap.size 37 (#[.int .i64 mo, .int .i64 mv, .int .u64 (ms : Int)] : Array Value).toList) := hid (by rw [hW0]; exact (Row.new _ _ _).alloc _)
  have HE0 : Hid (Row W0 (w.heap.size + 1) 24 (#[.int .i64 view, .int .i64 opn, .int .i64 under, .int .u64 (parent : Int), .int .i64 client, .int .i64 session, .int .i64 request, .int .i64 oper, .string body] : Array Value).toList) := hid (by
    rw [hW0]
    have := Row.new (w.alloc (.cells #[.int .i64 mo, .int .i64 mv, .int .u64 (ms : Int)] 37)) 24 #[.int .i64 view, .int .i64 opn, .int .i64 under, .int .u64 (parent : Int), .int .i64 client, .int .i64 session, .int .i64 request, .int .i64 oper, .string body]
    simpa using this)
  have HZ := hid esize
  have HW0 := hid hW0
  clear hW0
  go_enter Tryd.func17, Tryd.ntmps17
  go_wp2_with (first
    | (rw [← HW0.out]; refine wpList_load_row rfl 24 (.tmp 3) rfl (w.heap.size + 1) rfl 24 #[.int .i64 view, .int .i64 opn, .int .i64 under, .int .u64 (parent : Int), .int .i64 client, .int .i64 session, .int .i64 request, .int .i64 oper, .string body] (0, 0) _ (Row.arr (cs := #[.int .i64 view, .int .i64 opn, .int .i64 under, .int .u64 (parent : Int), .int .i64 client, .int .i64 session, .int .i64 request, .int .i64 oper, .string body]) HE0.out) Tryd.underlying24 rfl HZ.out ?_)
    | (go_at_call 11; refine (HR.out _).mono ?_; rintro e w1 ⟨rfl, hb1⟩; have hm := HM0.out.below hb1 HM0.out.lt; have he := HE0.out.below hb1 HE0.out.lt; have m0 := hm.at_ 0 _ rfl; have m1 := hm.at_ 1 _ rfl; have m2 := hm.at_ 2 _ rfl; have e1 := he.at_ 1 _ rfl; have e2 := he.at_ 2 _ rfl; have e3 := he.at_ 3 _ rfl; have HB1 := hid (HB0.out.trans (hb1.mono HB0.out.size)); clear hb1 hm he))
  all_goals (go_ret; refine ⟨by simp [*] <;> first | rfl | exact Bool.beq_eq_decide_eq _ _, HB1.out⟩)

set_option maxHeartbeats 1000000 in
theorem efol_no (view opn under : Int) (parent : Nat) (client session request oper : Int) (body : ByteArray) (mo mv : Int) (ms : Nat) (w : World) 
    (HR : Hid (∀ W : World, Calls Tryd.prog 11 #[.agg #[.int .i64 view, .int .i64 opn, .int .i64 under, .int .u64 (parent : Int), .int .i64 client, .int .i64 session, .int .i64 request, .int .i64 oper, .string body]] W (VE W (.bool false)))) :
    Calls Tryd.prog 17 #[.agg #[.int .i64 mo, .int .i64 mv, .int .u64 (ms : Int)], .agg #[.int .i64 view, .int .i64 opn, .int .i64 under, .int .u64 (parent : Int), .int .i64 client, .int .i64 session, .int .i64 request, .int .i64 oper, .string body]] w (VE w (.bool false)) := by
  obtain ⟨W0, hW0⟩ : ∃ W0, W0 = (w.alloc (.cells #[.int .i64 mo, .int .i64 mv, .int .u64 (ms : Int)] 37)).alloc (.cells #[.int .i64 view, .int .i64 opn, .int .i64 under, .int .u64 (parent : Int), .int .i64 client, .int .i64 session, .int .i64 request, .int .i64 oper, .string body] 24) := ⟨_, rfl⟩
  have HB0 : Hid (Below w.heap.size w W0) := hid (by rw [hW0]; repeat' first | exact Below.refl _ _ | refine Below.alloc ?_ (by simp <;> omega) _)
  have HM0 : Hid (Row W0 w.heap.size 37 (#[.int .i64 mo, .int .i64 mv, .int .u64 (ms : Int)] : Array Value).toList) := hid (by rw [hW0]; exact (Row.new _ _ _).alloc _)
  have HE0 : Hid (Row W0 (w.heap.size + 1) 24 (#[.int .i64 view, .int .i64 opn, .int .i64 under, .int .u64 (parent : Int), .int .i64 client, .int .i64 session, .int .i64 request, .int .i64 oper, .string body] : Array Value).toList) := hid (by
    rw [hW0]
    have := Row.new (w.alloc (.cells #[.int .i64 mo, .int .i64 mv, .int .u64 (ms : Int)] 37)) 24 #[.int .i64 view, .int .i64 opn, .int .i64 under, .int .u64 (parent : Int), .int .i64 client, .int .i64 session, .int .i64 request, .int .i64 oper, .string body]
    simpa using this)
  have HZ := hid esize
  have HW0 := hid hW0
  clear hW0
  go_enter Tryd.func17, Tryd.ntmps17
  go_wp2_with (first
    | (rw [← HW0.out]; refine wpList_load_row rfl 24 (.tmp 3) rfl (w.heap.size + 1) rfl 24 #[.int .i64 view, .int .i64 opn, .int .i64 under, .int .u64 (parent : Int), .int .i64 client, .int .i64 session, .int .i64 request, .int .i64 oper, .string body] (0, 0) _ (Row.arr (cs := #[.int .i64 view, .int .i64 opn, .int .i64 under, .int .u64 (parent : Int), .int .i64 client, .int .i64 session, .int .i64 request, .int .i64 oper, .string body]) HE0.out) Tryd.underlying24 rfl HZ.out ?_)
    | (go_at_call 11; refine (HR.out _).mono ?_; rintro e w1 ⟨rfl, hb1⟩; have hm := HM0.out.below hb1 HM0.out.lt; have he := HE0.out.below hb1 HE0.out.lt; have m0 := hm.at_ 0 _ rfl; have m1 := hm.at_ 1 _ rfl; have m2 := hm.at_ 2 _ rfl; have e1 := he.at_ 1 _ rfl; have e2 := he.at_ 2 _ rfl; have e3 := he.at_ 3 _ rfl; have HB1 := hid (HB0.out.trans (hb1.mono HB0.out.size)); clear hb1 hm he))
  all_goals (go_ret; refine ⟨by simp [*], HB1.out⟩)

theorem efol_any (m : Mk) (e : En) (w : World) : Calls Tryd.prog 17 #[m.val, e.val] w (VE w (.bool (decide (Fol m e)))) := by
  have HR := hid (fun W => eright_any e W)
  have hb : decide (Fol m e) = (decide (Rt e) && (decide (e.opn - 1 = m.opn) && decide (e.under = m.view) && decide ((e.parent : Int) = m.sum))) := by
    rw [Bool.eq_iff_iff, decide_eq_true_iff]
    unfold Fol
    simp only [Bool.and_eq_true, decide_eq_true_eq, and_assoc]
    constructor <;> exact fun ⟨a, b, c, d⟩ => ⟨a, b, c, by omega⟩
  rw [hb]
  clear hb
  obtain ⟨mo, mv, ms⟩ := m
  by_cases h : Rt e
  · obtain ⟨⟨h1, h2⟩, _⟩ := id h
    rw [decide_eq_true h, Bool.true_and]
    rw [decide_eq_true h] at HR
    obtain ⟨view, opn, under, parent, client, session, request, oper, body⟩ := e
    exact efol_yes view opn under parent client session request oper body mo mv ms w h1 h2 HR
  · rw [decide_eq_false h, Bool.false_and]
    rw [decide_eq_false h] at HR
    obtain ⟨view, opn, under, parent, client, session, request, oper, body⟩ := e
    exact efol_no view opn under parent client session request oper body mo mv ms w HR

theorem elong_any (s : ByteArray) (w : World) : Calls Tryd.prog 8 #[.string s] w fun e w' => e = .returned (.bool (decide (5000 < (s.size : Int)))) ∧ w = w' := by
  go_enter Tryd.func8, Tryd.ntmps8
  go_wp2
  go_ret
  exact ⟨rfl, rfl⟩
end Go.Proofs.YtknalgobndbngaaDoor
