/-
  The walk of SessionNil.
-/
import Derived.Test.YtgphijkonmdehaaAwk
import Derived.Test.YtgphijkonmdehaaLai
namespace Go.Proofs.Ytgphijkonmdehaa
open Go.RowKit
set_option maxRecDepth 10000

/-- a load under a guard that says yes -/
theorem wpl_load_want {P : Program} {ops : Array Oper} {rest : List Oper} {o : Oper} {a : Act} {w : World} {Q : Exit → Act → World → Prop} (hw : Region.wanted o (yielded ops a.tmps) = true) (ty : TypeId) (x : Operand) (ho : o.op = .load ty x)
    (g : Nat) (hx : a.eval x = .pointer (some ⟨g, 0, none⟩)) (t : TypeId) (cs : Array Value) (fr : Nat × Nat) (d : TypeDesc) (hg : w.heap[g]? = some (.cells cs t fr))
    (hu : P.underlying ty = some d) (hd : (match d with | .struct _ | .array _ _ => true | _ => false) = true) (hi : (P.info? ty).map (·.size) = some cs.size)
    (h : wpList P ops Q rest (a.put o.dst (.agg cs)) w) : wpList P ops Q (o :: rest) a w :=
  BigFrame.wpList_want hw fun _ hK => wp_load_row ty x ho g hx t cs fr d hg hu hd hi (hK _ _ h)
theorem egSs : Try.prog.eqGuardType Try.prog.depth 37 = false := by kernel_rfl
/-- x == x, x a session -/
theorem wpl_eqs {ops : Array Oper} {rest : List Oper} {o : Oper} {a : Act} {w : World} {Q : Exit → Act → World → Prop} (hw : Region.wanted o (yielded ops a.tmps) = true) (s : Ss) (x y : Operand) (ty : TypeId) (ho : o.op = .binOp .eql 37 x y ty)
    (hx : a.eval x = .agg s.cells.toArray) (hy : a.eval y = .agg s.cells.toArray) (h : wpList Try.prog ops Q rest (a.put o.dst (.bool true)) w) : wpList Try.prog ops Q (o :: rest) a w := by
  refine BigFrame.wpList_want hw fun K hK => ?_
  have hEQ := eqSs s w
  have hEG := egSs
  generalize s.cells.toArray = Z at *
  unfold Oper.wp execOp
  simp [ho, hx, hy, eqGuard, hEG, binOp, Op.equal, Op.maxDepth, hEQ, Result.andThen]
  exact hK _ _ h
theorem wpl_nes {ops : Array Oper} {rest : List Oper} {o : Oper} {a : Act} {w : World} {Q : Exit → Act → World → Prop} (hw : Region.wanted o (yielded ops a.tmps) = true) (s : Ss) (x y : Operand) (ty : TypeId) (ho : o.op = .binOp .neq 37 x y ty)
    (hx : a.eval x = .agg s.cells.toArray) (hy : a.eval y = .agg s.cells.toArray) (h : wpList Try.prog ops Q rest (a.put o.dst (.bool false)) w) : wpList Try.prog ops Q (o :: rest) a w := by
  refine BigFrame.wpList_want hw fun K hK => ?_
  have hEQ := eqSs s w
  have hEG := egSs
  generalize s.cells.toArray = Z at *
  unfold Oper.wp execOp
  simp [ho, hx, hy, eqGuard, hEG, binOp, Op.equal, Op.maxDepth, hEQ, Result.andThen]
  exact hK _ _ h
set_option maxHeartbeats 4000000 in
theorem nil_law (x : Ab) (w : World) : Calls Try.prog 6 #[.agg x.cells.toArray] w (VE w (.bool true)) := by
  obtain ⟨k, c, s, r, o, t⟩ := x
  show Calls Try.prog 6 #[.agg #[.int .i64 k, .int .i64 c, .int .i64 s, .int .i64 r, .int .i64 o, .string t]] w (VE w (.bool true))
  have HAW := hid awake_any
  have HO := hid (fun W => opn_nil c o W)
  have HLK := hid (fun W => look_nil c W)
  have HV := hid (fun W => ver_nil c s r W)
  have HN := hid (fun W => not_nil c r o t W)
  have HL := hid (fun W => list_nil W)
  have HP := hid (fun W => pack_nil W)
  have HZ := hid ssSize
  have HR0 := hid (Row.new w 34 #[.int .i64 k, .int .i64 c, .int .i64 s, .int .i64 r, .int .i64 o, .string t])
  have HB0 := hid ((Below.refl w.heap.size w).alloc (Nat.le_refl _) (.cells #[.int .i64 k, .int .i64 c, .int .i64 s, .int .i64 r, .int .i64 o, .string t] 34))
  obtain ⟨w0, hw0⟩ : ∃ w0, w0 = w.alloc (.cells #[.int .i64 k, .int .i64 c, .int .i64 s, .int .i64 r, .int .i64 o, .string t] 34) := ⟨_, rfl⟩
  have HW0 := hid hw0
  have HS0 : Hid (w0.heap.size = w.heap.size + 1) := hid (by rw [hw0]; simp)
  rw [← hw0] at HR0 HB0
  have HC := hid (fun W (hW : Below w0.heap.size w0 W) => HR0.out.below hW HR0.out.lt)
  clear hw0
  go_enter Try.func6, Try.ntmps6
  go_wp2_with (first
    | (go_at_call 8; rw [← HW0.out]; refine (HAW.out _).mono ?_; rintro e w1 ⟨rfl, hx⟩; have HBB := hid hx; have hr := HC.out _ hx; have c1 := hr.at_ 1 _ rfl; have c4 := hr.at_ 4 _ rfl; clear hx hr)
    | (go_at_call 18; refine (HO.out _).mono ?_; rintro e w2 ⟨rfl, hx⟩; replace HBB := hid (HBB.out.trans (hx.mono HBB.out.size)); have hr := HC.out _ HBB.out; replace c1 := hr.at_ 1 _ rfl; clear hx hr c4)
    | (go_at_call 12; refine (HLK.out _).mono ?_; rintro e w3 ⟨rfl, hx⟩; replace HBB := hid (HBB.out.trans (hx.mono HBB.out.size)); clear hx c1)
    | (refine wpl_store_st rfl (.tmp 6) (.tmp 24) rfl HZ.out w3.heap.size ss0.cells ss0.cells rfl rfl (Row.new _ _ _) ?_ (hid rfl) (hid rfl) (hid rfl); intro w4 hr4 hg4; have hb4 : Below w3.heap.size w3 w4 := ((Below.refl _ _).alloc (Nat.le_refl _) _).trans (below_grown hg4 (Nat.le_refl _) (by simp)); replace HBB := hid (HBB.out.trans (hb4.mono HBB.out.size)); have HR4 := hid hr4; have hr := HC.out _ HBB.out; have c1 := hr.at_ 1 _ rfl; have c2 := hr.at_ 2 _ rfl; have c3 := hr.at_ 3 _ rfl; clear hr hb4 hg4 hr4)
    | (refine wpl_load_want rfl 37 (.tmp 6) rfl w3.heap.size rfl 37 ss0.cells.toArray (0, 0) _ HR4.out.arr' Try.underlying37 rfl HZ.out ?_)
    | (refine wpl_eqs rfl ss0 (.tmp 33) (.tmp 34) _ rfl rfl rfl ?_)
    | (go_at_call 20; refine (HV.out _).mono ?_; rintro e w5 ⟨rfl, hx⟩; replace HBB := hid (HBB.out.trans (hx.mono HBB.out.size)); have hr := HC.out _ HBB.out; replace c1 := hr.at_ 1 _ rfl; replace c3 := hr.at_ 3 _ rfl; have c4 := hr.at_ 4 _ rfl; have c5 := hr.at_ 5 _ rfl; clear hx hr c2)
    | (go_at_call 21; refine (HN.out _).mono ?_; rintro e w6 ⟨rfl, hx⟩; replace HBB := hid (HBB.out.trans (hx.mono HBB.out.size)); clear hx c1 c3 c4 c5)
    | (go_at_call 15; refine (HL.out _).mono ?_; intro e w7 hh; obtain ⟨A7, n7, rfl, -, -, hx, -⟩ := hh.ls; clear hh; replace HBB := hid (HBB.out.trans (hx.mono HBB.out.size)); clear hx)
    | (go_at_call 16; refine (HP.out _).mono ?_; rintro e w8 ⟨rfl, hx⟩; replace HBB := hid (HBB.out.trans (hx.mono HBB.out.size)); clear hx))
  go_ret
  exact ⟨rfl, HB0.out.trans (HBB.out.mono HB0.out.size)⟩
end Go.Proofs.Ytgphijkonmdehaa
