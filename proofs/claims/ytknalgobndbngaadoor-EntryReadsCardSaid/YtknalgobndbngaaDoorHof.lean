/-
  The walks of package entry's headOf, entryOf.
-/
import Derived.Test.YtknalgobndbngaaDoorEn
namespace Go.Proofs.YtknalgobndbngaaDoor
open Go.RowKit
set_option maxRecDepth 10000

/-- an entry's header; an entry of a header and a body -/
def hof (e : En) : Hd := ⟨255, 0, e.oper, e.view, e.opn, 0, e.client, e.session, e.request, e.under, 0, e.parent⟩
def eof (h : Hd) (b : ByteArray) : En := ⟨h.view, h.opn, h.a, h.parent, h.client, h.session, h.request, h.oper, b⟩
set_option maxHeartbeats 1000000 in
theorem hof_any (e : En) (w : World) : Calls Tryd.prog 21 #[e.val] w (VE w (hof e).val) := by
  obtain ⟨view, opn, under, parent, client, session, request, oper, body⟩ := e
  show Calls Tryd.prog 21 #[.agg #[.int .i64 view, .int .i64 opn, .int .i64 under, .int .u64 (parent : Int), .int .i64 client, .int .i64 session, .int .i64 request, .int .i64 oper, .string body]] w (VE w (.agg #[.int .i64 255, .int .i64 0, .int .i64 oper, .int .i64 view, .int .i64 opn, .int .i64 0, .int .i64 client, .int .i64 session, .int .i64 request, .int .i64 under, .int .i64 0, .int .u64 (parent : Int)]))
  go_enter Tryd.func21, Tryd.ntmps21
  go_wp2_with fail
  refine bodyPost_ret (v := .agg #[.int .i64 255, .int .i64 0, .int .i64 oper, .int .i64 view, .int .i64 opn, .int .i64 0, .int .i64 client, .int .i64 session, .int .i64 request, .int .i64 under, .int .i64 0, .int .u64 (parent : Int)])
    (results_cell_row rfl _ _ (w.heap.size + 1) 43 _ (0, 0) _ rfl (alloc2_new _ _ _) Tryd.underlying43 rfl (by kernel_rfl)) rfl ⟨rfl, ((Below.refl _ _).alloc (Nat.le_refl _) _).alloc (by simp) _⟩
set_option maxHeartbeats 1000000 in
theorem eof_any (h : Hd) (b : ByteArray) (w : World) : Calls Tryd.prog 26 #[h.val, .string b] w (VE w (eof h b).val) := by
  obtain ⟨kind, frm, oper, view, opn, commit, client, session, request, a, bb, parent⟩ := h
  show Calls Tryd.prog 26 #[.agg #[.int .i64 kind, .int .i64 frm, .int .i64 oper, .int .i64 view, .int .i64 opn, .int .i64 commit, .int .i64 client, .int .i64 session, .int .i64 request, .int .i64 a, .int .i64 bb, .int .u64 (parent : Int)], .string b] w (VE w (.agg #[.int .i64 view, .int .i64 opn, .int .i64 a, .int .u64 (parent : Int), .int .i64 client, .int .i64 session, .int .i64 request, .int .i64 oper, .string b]))
  go_enter Tryd.func26, Tryd.ntmps26
  go_wp2_with fail
  refine bodyPost_ret (v := .agg #[.int .i64 view, .int .i64 opn, .int .i64 a, .int .u64 (parent : Int), .int .i64 client, .int .i64 session, .int .i64 request, .int .i64 oper, .string b])
    (results_cell_row rfl _ _ (w.heap.size + 1) 24 _ (0, 0) _ rfl (alloc2_new _ _ _) Tryd.underlying24 rfl (by kernel_rfl)) rfl ⟨rfl, ((Below.refl _ _).alloc (Nat.le_refl _) _).alloc (by simp) _⟩
end Go.Proofs.YtknalgobndbngaaDoor
