/-
  The walk of package entry's Next.
-/
import Derived.Test.YteahbalcielhpaaGreatDoorZ06
import Derived.Test.YteahbalcielhpaaGreatDoorZ07
import Derived.BigRegion
namespace Go.Proofs.YteahbalcielhpaaGreatDoor
open Go.RowKit
set_option maxRecDepth 10000

set_option maxHeartbeats 1000000 in
theorem next_yes (view opn under : Int) (parent : Nat) (client session request oper : Int) (body : ByteArray) (mo mv : Int) (ms : Nat) (w : World) (hm1 : 0 ≤ mo) (hm2 : mo ≤ 72057594037927934)
    (HW : Hid (∀ (W : World) (g : Nat), g = W.heap.size → Calls Tryz.prog 44 #[.int .i64 0, .int .i64 72057594037927934, .slice (some ⟨g, 0, none⟩) 1 1] (W.alloc (.cells #[.int .i64 mo] 3)) fun e w' => e = .returned (.bool true) ∧ W.alloc (.cells #[.int .i64 mo] 3) = w'))
    (HCL : Hid (∀ W : World, Calls Tryz.prog 38 #[.string body] W fun e w' => e = .returned (.string body) ∧ Below W.heap.size W w')) :
    Calls Tryz.prog 28 #[.agg #[.int .i64 mo, .int .i64 mv, .int .u64 (ms : Int)], .agg #[.int .i64 view, .int .i64 opn, .int .i64 under, .int .u64 (parent : Int), .int .i64 client, .int .i64 session, .int .i64 request, .int .i64 oper, .string body]] w (VE w (.agg #[.int .i64 view, .int .i64 (mo + 1), .int .i64 mv, .int .u64 (ms : Int), .int .i64 client, .int .i64 session, .int .i64 request, .int .i64 oper, .string body])) := by
  obtain ⟨W5, hW5⟩ : ∃ W5, W5 = ((((w.alloc (.cells #[.int .i64 mo, .int .i64 mv, .int .u64 (ms : Int)] 27)).alloc (.cells #[.int .i64 view, .int .i64 (mo + 1), .int .i64 mv, .int .u64 (ms : Int), .int .i64 client, .int .i64 session, .int .i64 request, .int .i64 oper, .string body] 35)).alloc (.cells #[.int .i64 0, .int .i64 0, .int .i64 0, .int .u64 0, .int .i64 0, .int .i64 0, .int .i64 0, .int .i64 0, .string ⟨#[]⟩] 35)).alloc (.cells #[.int .i64 mo] 3)).drew := ⟨_, rfl⟩
  have HS5 : Hid (W5.heap.size = w.heap.size + 4) := hid (by rw [hW5]; simp [World.drew])
  have HB5 : Hid (Below w.heap.size w W5) := hid (by rw [hW5]; refine Below.drew ?_; repeat' first | exact Below.refl _ _ | refine Below.alloc ?_ (by simp <;> omega) _)
  have HE5 : Hid (Row W5 (w.heap.size + 1) 35 (#[.int .i64 view, .int .i64 (mo + 1), .int .i64 mv, .int .u64 (ms : Int), .int .i64 client, .int .i64 session, .int .i64 request, .int .i64 oper, .string body] : Array Value).toList) := hid (by
    rw [hW5]
    have := (((Row.new (w.alloc (.cells #[.int .i64 mo, .int .i64 mv, .int .u64 (ms : Int)] 27)) 35 #[.int .i64 view, .int .i64 (mo + 1), .int .i64 mv, .int .u64 (ms : Int), .int .i64 client, .int .i64 session, .int .i64 request, .int .i64 oper, .string body]).alloc (.cells #[.int .i64 0, .int .i64 0, .int .i64 0, .int .u64 0, .int .i64 0, .int .i64 0, .int .i64 0, .int .i64 0, .string ⟨#[]⟩] 35)).alloc (.cells #[.int .i64 mo] 3)).drew
    simpa using this)
  have HR5 : Hid (Row W5 (w.heap.size + 1 + 1) 35 (#[.int .i64 0, .int .i64 0, .int .i64 0, .int .u64 0, .int .i64 0, .int .i64 0, .int .i64 0, .int .i64 0, .string ⟨#[]⟩] : Array Value).toList) := hid (by
    rw [hW5]
    have := ((Row.new ((w.alloc (.cells #[.int .i64 mo, .int .i64 mv, .int .u64 (ms : Int)] 27)).alloc (.cells #[.int .i64 view, .int .i64 (mo + 1), .int .i64 mv, .int .u64 (ms : Int), .int .i64 client, .int .i64 session, .int .i64 request, .int .i64 oper, .string body] 35)) 35 #[.int .i64 0, .int .i64 0, .int .i64 0, .int .u64 0, .int .i64 0, .int .i64 0, .int .i64 0, .int .i64 0, .string ⟨#[]⟩]).alloc (.cells #[.int .i64 mo] 3)).drew
    simpa using this)
  have HC5 : Hid (W5.cell? ⟨w.heap.size + 1, 8, none⟩ = some (.string body)) := hid (HE5.out.at_ 8 _ rfl)
  have HZ := hid esize
  have HW5 := hid hW5
  clear hW5
  go_enter Tryz.func28, Tryz.ntmps28
  go_wp2_with (go_at_call 44; refine (HW.out _ _ (by simp)).mono ?_; rintro e w' ⟨rfl, rfl⟩)
  go_region
  rw [← HW5.out]
  have hc5 := HC5.out
  go_wp2_with (first
    | (go_at_call 38; refine (HCL.out _).mono ?_; rintro e w6 ⟨rfl, hb6⟩; have hrE := HE5.out.below hb6 HE5.out.lt; have hrR := HR5.out.below hb6 HR5.out.lt; have hc8 := hrE.at_ 8 _ rfl; have hf8 := hrE.frozen 8; have hrE2 := hrE.set_ 8 (.string body); have hrR2 := hrR.far (p := ⟨w.heap.size + 1, 8, none⟩) (by show w.heap.size + 1 + 1 ≠ w.heap.size + 1; omega) (.string body); have HBB := hid ((HB5.out.trans (hb6.mono HB5.out.size)).setCell (p := ⟨w.heap.size + 1, 8, none⟩) (by show w.heap.size ≤ w.heap.size + 1; omega) (.string body)))
    | (refine wpList_load_row rfl 35 (.tmp 3) rfl (w.heap.size + 1) rfl 35 #[.int .i64 view, .int .i64 (mo + 1), .int .i64 mv, .int .u64 (ms : Int), .int .i64 client, .int .i64 session, .int .i64 request, .int .i64 oper, .string body] (0, 0) _ (Row.arr (cs := #[.int .i64 view, .int .i64 (mo + 1), .int .i64 mv, .int .u64 (ms : Int), .int .i64 client, .int .i64 session, .int .i64 request, .int .i64 oper, .string body]) hrE2) Tryz.underlying35 rfl HZ.out ?_)
    | (refine wpl_store_st rfl (.tmp 4) (.tmp 23) rfl HZ.out (w.heap.size + 1 + 1) #[.int .i64 0, .int .i64 0, .int .i64 0, .int .u64 0, .int .i64 0, .int .i64 0, .int .i64 0, .int .i64 0, .string ⟨#[]⟩] #[.int .i64 view, .int .i64 (mo + 1), .int .i64 mv, .int .u64 (ms : Int), .int .i64 client, .int .i64 session, .int .i64 request, .int .i64 oper, .string body] rfl rfl hrR2 ?_ (hid rfl) (hid rfl) (hid (by simp [Value.oneCell'])); intro w7 hr7 hg7; replace HBB := hid (HBB.out.trans (below_grown hg7 (by omega) HBB.out.size))))
  refine bodyPost_ret (v := .agg #[.int .i64 view, .int .i64 (mo + 1), .int .i64 mv, .int .u64 (ms : Int), .int .i64 client, .int .i64 session, .int .i64 request, .int .i64 oper, .string body])
    (results_cell_row rfl _ _ (w.heap.size + 1 + 1) 35 _ (0, 0) _ rfl (Row.arr hr7) Tryz.underlying35 rfl HZ.out) rfl ⟨rfl, HBB.out⟩
set_option maxHeartbeats 1000000 in
theorem next_no (view opn under : Int) (parent : Nat) (client session request oper : Int) (body : ByteArray) (mo mv : Int) (ms : Nat) (w : World) 
    (HW : Hid (∀ (W : World) (g : Nat), g = W.heap.size → Calls Tryz.prog 44 #[.int .i64 0, .int .i64 72057594037927934, .slice (some ⟨g, 0, none⟩) 1 1] (W.alloc (.cells #[.int .i64 mo] 3)) fun e w' => e = .returned (.bool false) ∧ W.alloc (.cells #[.int .i64 mo] 3) = w'))
    (HCL : Hid (∀ W : World, Calls Tryz.prog 38 #[.string body] W fun e w' => e = .returned (.string body) ∧ Below W.heap.size W w')) :
    Calls Tryz.prog 28 #[.agg #[.int .i64 mo, .int .i64 mv, .int .u64 (ms : Int)], .agg #[.int .i64 view, .int .i64 opn, .int .i64 under, .int .u64 (parent : Int), .int .i64 client, .int .i64 session, .int .i64 request, .int .i64 oper, .string body]] w (VE w (.agg #[.int .i64 view, .int .i64 opn, .int .i64 mv, .int .u64 (ms : Int), .int .i64 client, .int .i64 session, .int .i64 request, .int .i64 oper, .string body])) := by
  obtain ⟨W5, hW5⟩ : ∃ W5, W5 = ((((w.alloc (.cells #[.int .i64 mo, .int .i64 mv, .int .u64 (ms : Int)] 27)).alloc (.cells #[.int .i64 view, .int .i64 opn, .int .i64 mv, .int .u64 (ms : Int), .int .i64 client, .int .i64 session, .int .i64 request, .int .i64 oper, .string body] 35)).alloc (.cells #[.int .i64 0, .int .i64 0, .int .i64 0, .int .u64 0, .int .i64 0, .int .i64 0, .int .i64 0, .int .i64 0, .string ⟨#[]⟩] 35)).alloc (.cells #[.int .i64 mo] 3)).drew := ⟨_, rfl⟩
  have HS5 : Hid (W5.heap.size = w.heap.size + 4) := hid (by rw [hW5]; simp [World.drew])
  have HB5 : Hid (Below w.heap.size w W5) := hid (by rw [hW5]; refine Below.drew ?_; repeat' first | exact Below.refl _ _ | refine Below.alloc ?_ (by simp <;> omega) _)
  have HE5 : Hid (Row W5 (w.heap.size + 1) 35 (#[.int .i64 view, .int .i64 opn, .int .i64 mv, .int .u64 (ms : Int), .int .i64 client, .int .i64 session, .int .i64 request, .int .i64 oper, .string body] : Array Value).toList) := hid (by
    rw [hW5]
    have := (((Row.new (w.alloc (.cells #[.int .i64 mo, .int .i64 mv, .int .u64 (ms : Int)] 27)) 35 #[.int .i64 view, .int .i64 opn, .int .i64 mv, .int .u64 (ms : Int), .int .i64 client, .int .i64 session, .int .i64 request, .int .i64 oper, .string body]).alloc (.cells #[.int .i64 0, .int .i64 0, .int .i64 0, .int .u64 0, .int .i64 0, .int .i64 0, .int .i64 0, .int .i64 0, .string ⟨#[]⟩] 35)).alloc (.cells #[.int .i64 mo] 3)).drew
    simpa using this)
  have HR5 : Hid (Row W5 (w.heap.size + 1 + 1) 35 (#[.int .i64 0, .int .i64 0, .int .i64 0, .int .u64 0, .int .i64 0, .int .i64 0, .int .i64 0, .int .i64 0, .string ⟨#[]⟩] : Array Value).toList) := hid (by
    rw [hW5]
    have := ((Row.new ((w.alloc (.cells #[.int .i64 mo, .int .i64 mv, .int .u64 (ms : Int)] 27)).alloc (.cells #[.int .i64 view, .int .i64 opn, .int .i64 mv, .int .u64 (ms : Int), .int .i64 client, .int .i64 session, .int .i64 request, .int .i64 oper, .string body] 35)) 35 #[.int .i64 0, .int .i64 0, .int .i64 0, .int .u64 0, .int .i64 0, .int .i64 0, .int .i64 0, .int .i64 0, .string ⟨#[]⟩]).alloc (.cells #[.int .i64 mo] 3)).drew
    simpa using this)
  have HC5 : Hid (W5.cell? ⟨w.heap.size + 1, 8, none⟩ = some (.string body)) := hid (HE5.out.at_ 8 _ rfl)
  have HZ := hid esize
  have HW5 := hid hW5
  clear hW5
  go_enter Tryz.func28, Tryz.ntmps28
  go_wp2_with (go_at_call 44; refine (HW.out _ _ (by simp)).mono ?_; rintro e w' ⟨rfl, rfl⟩)
  go_region
  rw [← HW5.out]
  have hc5 := HC5.out
  go_wp2_with (first
    | (go_at_call 38; refine (HCL.out _).mono ?_; rintro e w6 ⟨rfl, hb6⟩; have hrE := HE5.out.below hb6 HE5.out.lt; have hrR := HR5.out.below hb6 HR5.out.lt; have hc8 := hrE.at_ 8 _ rfl; have hf8 := hrE.frozen 8; have hrE2 := hrE.set_ 8 (.string body); have hrR2 := hrR.far (p := ⟨w.heap.size + 1, 8, none⟩) (by show w.heap.size + 1 + 1 ≠ w.heap.size + 1; omega) (.string body); have HBB := hid ((HB5.out.trans (hb6.mono HB5.out.size)).setCell (p := ⟨w.heap.size + 1, 8, none⟩) (by show w.heap.size ≤ w.heap.size + 1; omega) (.string body)))
    | (refine wpList_load_row rfl 35 (.tmp 3) rfl (w.heap.size + 1) rfl 35 #[.int .i64 view, .int .i64 opn, .int .i64 mv, .int .u64 (ms : Int), .int .i64 client, .int .i64 session, .int .i64 request, .int .i64 oper, .string body] (0, 0) _ (Row.arr (cs := #[.int .i64 view, .int .i64 opn, .int .i64 mv, .int .u64 (ms : Int), .int .i64 client, .int .i64 session, .int .i64 request, .int .i64 oper, .string body]) hrE2) Tryz.underlying35 rfl HZ.out ?_)
    | (refine wpl_store_st rfl (.tmp 4) (.tmp 23) rfl HZ.out (w.heap.size + 1 + 1) #[.int .i64 0, .int .i64 0, .int .i64 0, .int .u64 0, .int .i64 0, .int .i64 0, .int .i64 0, .int .i64 0, .string ⟨#[]⟩] #[.int .i64 view, .int .i64 opn, .int .i64 mv, .int .u64 (ms : Int), .int .i64 client, .int .i64 session, .int .i64 request, .int .i64 oper, .string body] rfl rfl hrR2 ?_ (hid rfl) (hid rfl) (hid (by simp [Value.oneCell'])); intro w7 hr7 hg7; replace HBB := hid (HBB.out.trans (below_grown hg7 (by omega) HBB.out.size))))
  refine bodyPost_ret (v := .agg #[.int .i64 view, .int .i64 opn, .int .i64 mv, .int .u64 (ms : Int), .int .i64 client, .int .i64 session, .int .i64 request, .int .i64 oper, .string body])
    (results_cell_row rfl _ _ (w.heap.size + 1 + 1) 35 _ (0, 0) _ rfl (Row.arr hr7) Tryz.underlying35 rfl HZ.out) rfl ⟨rfl, HBB.out⟩
theorem next_any (m : Mk) (e : En) (w : World) (hs : e.body.size ≤ 281474976710656) : Calls Tryz.prog 28 #[m.val, e.val] w (VE w (nextS9 m e).val) := by
  have HW := hid (wiA 0 72057594037927934 [m.opn] #[.int .i64 m.opn] 1 (by simp) (by simp) rfl rfl)
  have HCL := hid (fun W => clone_any e.body W hs)
  obtain ⟨view, opn, under, parent, client, session, request, oper, body⟩ := e
  obtain ⟨mo, mv, ms⟩ := m
  by_cases hm : 0 ≤ mo ∧ mo ≤ 72057594037927934
  · have hwi : wi 0 72057594037927934 [mo] = true := by simp [wi, hm]
    have hn : nextS9 ⟨mo, mv, ms⟩ ⟨view, opn, under, parent, client, session, request, oper, body⟩ = ⟨view, mo + 1, mv, ms, client, session, request, oper, body⟩ := by unfold nextS9; rw [if_pos hm]
    rw [hn]
    exact next_yes view opn under parent client session request oper body mo mv ms w hm.1 hm.2 (hid (by rw [← hwi]; exact HW.out)) HCL
  · have hwi : wi 0 72057594037927934 [mo] = false := by simp [wi]; omega
    have hn : nextS9 ⟨mo, mv, ms⟩ ⟨view, opn, under, parent, client, session, request, oper, body⟩ = ⟨view, opn, mv, ms, client, session, request, oper, body⟩ := by unfold nextS9; rw [if_neg hm]
    rw [hn]
    exact next_no view opn under parent client session request oper body mo mv ms w (hid (by rw [← hwi]; exact HW.out)) HCL
end Go.Proofs.YteahbalcielhpaaGreatDoor
