/-
  The walk of the document's Pack of an entry.
-/
import Derived.Test.YtknalgobndbngaaDoorRrgt
import Derived.Test.YtknalgobndbngaaDoorEpk
import Derived.Test.YtknalgobndbngaaDoorRpack2
namespace Go.Proofs.YtknalgobndbngaaDoor
open Go.RowKit
set_option maxRecDepth 10000

set_option maxHeartbeats 1000000 in
theorem rpack9_no (E : Array Value) (w : World) (hE : (Tryd.prog.info? 24).map (·.size) = some E.size)
    (HR : Hid (∀ W : World, Calls Tryd.prog 12 #[.agg E] W (VE W (.bool false)))) :
    Calls Tryd.prog 10 #[.agg E] w (SN w ([], 4)) := by
  have HE := hid hE
  have HB := hid ((Below.refl w.heap.size w).alloc (Nat.le_refl _) (.cells E 24))
  have HRW : Hid (Row (w.alloc (.cells E 24)) w.heap.size 24 E.toList) := hid (Row.new _ _ _)
  clear hE
  go_enter Tryd.func10, Tryd.ntmps10
  go_wp2_with (first
    | (refine wpList_load_row rfl 24 (.tmp 1) rfl w.heap.size rfl 24 E (0, 0) _ HRW.out.arr Tryd.underlying24 rfl HE.out ?_)
    | (go_at_call 12; refine (HR.out _).mono ?_; rintro e w1 ⟨rfl, hb1⟩))
  go_ret2
  exact ⟨rfl, HB.out.trans (hb1.mono HB.out.size)⟩

set_option maxHeartbeats 2000000 in
theorem rpack9_yes (view opn under : Int) (parent : Nat) (client session request oper : Int) (body : ByteArray) (T : ByteArray) (f : Int) (w : World)
    (HR : Hid (∀ W : World, Calls Tryd.prog 12 #[.agg #[.int .i64 view, .int .i64 opn, .int .i64 under, .int .u64 (parent : Int), .int .i64 client, .int .i64 session, .int .i64 request, .int .i64 oper, .string body]] W (VE W (.bool true))))
    (HP : Hid (∀ W : World, Calls Tryd.prog 22 #[.agg #[.int .i64 255, .int .i64 0, .int .i64 oper, .int .i64 view, .int .i64 opn, .int .i64 0, .int .i64 client, .int .i64 session, .int .i64 request, .int .i64 under, .int .i64 0, .int .u64 (parent : Int)], .string body] W fun x W' => x = .returned (.tuple #[.string T, .int .i64 f]) ∧ Below W.heap.size W W')) :
    Calls Tryd.prog 10 #[.agg #[.int .i64 view, .int .i64 opn, .int .i64 under, .int .u64 (parent : Int), .int .i64 client, .int .i64 session, .int .i64 request, .int .i64 oper, .string body]] w fun x W' => x = .returned (.tuple #[.string T, .int .i64 f]) ∧ Below w.heap.size w W' := by
  have HB := hid ((Below.refl w.heap.size w).alloc (Nat.le_refl _) (.cells #[.int .i64 view, .int .i64 opn, .int .i64 under, .int .u64 (parent : Int), .int .i64 client, .int .i64 session, .int .i64 request, .int .i64 oper, .string body] 24))
  have HRW : Hid (Row (w.alloc (.cells #[.int .i64 view, .int .i64 opn, .int .i64 under, .int .u64 (parent : Int), .int .i64 client, .int .i64 session, .int .i64 request, .int .i64 oper, .string body] 24)) w.heap.size 24 (#[.int .i64 view, .int .i64 opn, .int .i64 under, .int .u64 (parent : Int), .int .i64 client, .int .i64 session, .int .i64 request, .int .i64 oper, .string body] : Array Value).toList) := hid (Row.new _ _ _)
  go_enter Tryd.func10, Tryd.ntmps10
  go_wp2_with (first
    | (go_at_call 12; refine (HR.out _).mono ?_; rintro e w1 ⟨rfl, hb1⟩; have HB1 := hid (HB.out.trans (hb1.mono HB.out.size)); have he := HRW.out.below hb1 HRW.out.lt; have hlt := he.lt; have c0 := he.at_ 0 _ rfl; have c1 := he.at_ 1 _ rfl; have c2 := he.at_ 2 _ rfl; have c3 := he.at_ 3 _ rfl; have c4 := he.at_ 4 _ rfl; have c5 := he.at_ 5 _ rfl; have c6 := he.at_ 6 _ rfl; have c7 := he.at_ 7 _ rfl; have c8 := he.at_ 8 _ rfl; clear hb1 he)
    | (go_at_call 22; refine (HP.out _).mono ?_; rintro e w2 ⟨rfl, hb2⟩))
  go_ret2
  have h1 := HB1.out.alloc HB1.out.size (.cells #[.int .i64 255, .int .i64 0, .int .i64 oper, .int .i64 view, .int .i64 opn, .int .i64 0, .int .i64 client, .int .i64 session, .int .i64 request, .int .i64 under, .int .i64 0, .int .u64 (parent : Int)] 43)
  exact ⟨rfl, h1.trans (hb2.mono h1.size)⟩

theorem rpack9_any (e : En) (he : e.fits) (w : World) : Calls Tryd.prog 10 #[e.val] w (SN w (packE e)) := by
  have HR := hid (fun W => rright9_any e W)
  unfold packE
  by_cases h : Rt e
  · rw [if_pos h]
    rw [decide_eq_true h] at HR
    have HP := hid (fun W => rpack_any (hof e) (packS_rt he h).2 e.body W)
    obtain ⟨r, hr⟩ : ∃ r, r = packS (hof e) (sb e.body) := ⟨_, rfl⟩
    rw [← hr] at HP ⊢
    obtain ⟨view, opn, under, parent, client, session, request, oper, body⟩ := e
    exact rpack9_yes view opn under parent client session request oper body ⟨r.1.toArray⟩ r.2 w HR HP
  · rw [if_neg h]
    rw [decide_eq_false h] at HR
    exact rpack9_no e.cells w (ecells_size e) HR
end Go.Proofs.YtknalgobndbngaaDoor
