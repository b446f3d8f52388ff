/-
  The walks of package head's numbers, header.
-/
import Derived.Test.YtknalgobndbngaaDoorHd
namespace Go.Proofs.YtknalgobndbngaaDoor
open Go.RowKit
set_option maxRecDepth 10000

/-- a value, and what was there is as it was -/
def VE (w : World) (v : Value) (e : Ending) (w' : World) : Prop := e = .returned v ∧ Below w.heap.size w w'

theorem alloc2_new (w : World) (o1 o2 : Obj) : ((w.alloc o1).alloc o2).heap[w.heap.size + 1]? = some o2 := by
  have := heap_alloc_new (w.alloc o1) o2
  simpa using this

set_option maxHeartbeats 1000000 in
theorem numbers_any (h : Hd) (w : World) : Calls Tryd.prog 32 #[h.val] w (VE w (.agg (av h.nums).toArray)) := by
  obtain ⟨kind, frm, oper, view, opn, commit, client, session, request, a, b, parent⟩ := h
  show Calls Tryd.prog 32 #[.agg #[.int .i64 kind, .int .i64 frm, .int .i64 oper, .int .i64 view, .int .i64 opn, .int .i64 commit, .int .i64 client, .int .i64 session, .int .i64 request, .int .i64 a, .int .i64 b, .int .u64 (parent : Int)]] w _
  go_enter Tryd.func32, Tryd.ntmps32
  go_wp2_with fail
  have e : (av (Hd.nums ⟨kind, frm, oper, view, opn, commit, client, session, request, a, b, parent⟩)).toArray = #[.int .u64 0, .int .u64 (IntKind.u64.wrap kind), .int .u64 (IntKind.u64.wrap frm), .int .u64 (IntKind.u64.wrap oper), .int .u64 0, .int .u64 0, .int .u64 (parent : Int), .int .u64 (IntKind.u64.wrap view),
      .int .u64 (IntKind.u64.wrap opn), .int .u64 (IntKind.u64.wrap commit), .int .u64 (IntKind.u64.wrap client), .int .u64 (IntKind.u64.wrap session), .int .u64 (IntKind.u64.wrap request), .int .u64 (IntKind.u64.wrap a), .int .u64 (IntKind.u64.wrap b)] := by
    simp [av, Hd.nums, un_wrap]
  refine bodyPost_ret (v := .agg (av (Hd.nums ⟨kind, frm, oper, view, opn, commit, client, session, request, a, b, parent⟩)).toArray)
    (results_cell_row rfl _ _ (w.heap.size + 1) 53 (av (Hd.nums ⟨kind, frm, oper, view, opn, commit, client, session, request, a, b, parent⟩)).toArray (0, 0) _ rfl ?_ Tryd.underlying53 rfl (by kernel_rfl)) rfl ⟨rfl, ?_⟩
  · rw [e]
    exact alloc2_new _ _ _
  · exact ((Below.refl _ _).alloc (Nat.le_refl _) _).alloc (by simp) _

set_option maxHeartbeats 1000000 in
theorem header_any (l : List Nat) (hl : l.length = 15) (w : World) : Calls Tryd.prog 38 #[.agg (av l).toArray] w (VE w (hdOf l).val) := by
  match l, hl with
  | [n0, n1, n2, n3, n4, n5, n6, n7, n8, n9, n10, n11, n12, n13, n14], _ =>
    show Calls Tryd.prog 38 #[.agg #[.int .u64 (n0 : Int), .int .u64 (n1 : Int), .int .u64 (n2 : Int), .int .u64 (n3 : Int), .int .u64 (n4 : Int), .int .u64 (n5 : Int), .int .u64 (n6 : Int), .int .u64 (n7 : Int), .int .u64 (n8 : Int), .int .u64 (n9 : Int), .int .u64 (n10 : Int), .int .u64 (n11 : Int), .int .u64 (n12 : Int), .int .u64 (n13 : Int), .int .u64 (n14 : Int)]] w (VE w (.agg #[.int .i64 (wrap64 (n1 : Int)), .int .i64 (wrap64 (n2 : Int)), .int .i64 (wrap64 (n3 : Int)), .int .i64 (wrap64 (n7 : Int)), .int .i64 (wrap64 (n8 : Int)), .int .i64 (wrap64 (n9 : Int)), .int .i64 (wrap64 (n10 : Int)), .int .i64 (wrap64 (n11 : Int)), .int .i64 (wrap64 (n12 : Int)), .int .i64 (wrap64 (n13 : Int)), .int .i64 (wrap64 (n14 : Int)), .int .u64 (n6 : Int)]))
    go_enter Tryd.func38, Tryd.ntmps38
    go_wp2_with fail
    refine bodyPost_ret (v := .agg #[.int .i64 (wrap64 (n1 : Int)), .int .i64 (wrap64 (n2 : Int)), .int .i64 (wrap64 (n3 : Int)), .int .i64 (wrap64 (n7 : Int)), .int .i64 (wrap64 (n8 : Int)), .int .i64 (wrap64 (n9 : Int)), .int .i64 (wrap64 (n10 : Int)), .int .i64 (wrap64 (n11 : Int)), .int .i64 (wrap64 (n12 : Int)), .int .i64 (wrap64 (n13 : Int)), .int .i64 (wrap64 (n14 : Int)), .int .u64 (n6 : Int)])
      (results_cell_row rfl _ _ (w.heap.size + 1) 43 _ (0, 0) _ rfl (alloc2_new _ _ _) Tryd.underlying43 rfl (by kernel_rfl)) rfl ⟨rfl, ((Below.refl _ _).alloc (Nat.le_refl _) _).alloc (by simp) _⟩
end Go.Proofs.YtknalgobndbngaaDoor
