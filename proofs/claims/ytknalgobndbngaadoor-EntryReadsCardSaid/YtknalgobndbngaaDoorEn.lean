/-
  Entries and marks in plain words and in memory; an entry that may be.
-/
import Derived.Test.YtknalgobndbngaaDoorKd
namespace Go.Proofs.YtknalgobndbngaaDoor
open Go.RowKit
set_option maxRecDepth 10000

/-- an entry -/
structure En where
  view : Int
  opn : Int
  under : Int
  parent : Nat
  client : Int
  session : Int
  request : Int
  oper : Int
  body : ByteArray
def En.cells (e : En) : Array Value := #[.int .i64 e.view, .int .i64 e.opn, .int .i64 e.under, .int .u64 (e.parent : Int), .int .i64 e.client, .int .i64 e.session, .int .i64 e.request, .int .i64 e.oper, .string e.body]
def En.val (e : En) : Value := .agg e.cells
def en0 : En := ⟨0, 0, 0, 0, 0, 0, 0, 0, ⟨#[]⟩⟩
/-- an entry of the machine's -/
def En.fits (e : En) : Prop := (In64 e.view ∧ In64 e.opn ∧ In64 e.under ∧ In64 e.client) ∧ (In64 e.session ∧ In64 e.request ∧ In64 e.oper) ∧ e.parent < 18446744073709551616
/-- a mark -/
structure Mk where
  opn : Int
  view : Int
  sum : Nat
deriving DecidableEq
def Mk.cells (m : Mk) : Array Value := #[.int .i64 m.opn, .int .i64 m.view, .int .u64 (m.sum : Int)]
def Mk.val (m : Mk) : Value := .agg m.cells
def mk0 : Mk := ⟨0, 0, 0⟩
def Mk.fits (m : Mk) : Prop := In64 m.opn ∧ In64 m.view ∧ m.sum < 18446744073709551616
theorem ecells_one (e : En) : e.cells.all (·.oneCell') = true := by simp [En.cells, Value.oneCell']
theorem ecells_size (e : En) : (Tryd.prog.info? 24).map (·.size) = some e.cells.size := by
  show _ = some 9
  kernel_rfl
theorem esize : (Tryd.prog.info? 24).map (·.size) = some 9 := by kernel_rfl
theorem mcells_one (m : Mk) : m.cells.all (·.oneCell') = true := by simp [Mk.cells, Value.oneCell']
theorem mcells_size (m : Mk) : (Tryd.prog.info? 37).map (·.size) = some m.cells.size := by
  show _ = some 3
  kernel_rfl
theorem msize : (Tryd.prog.info? 37).map (·.size) = some 3 := by kernel_rfl

/-! ### held against each other -/
theorem entryFields : (Tryd.prog.fieldsOf 24).toList = [{ name := "View", type := 3, offset := 0, embedded := false, tag := "", pkgPath := "", byteOffset := 0 }, { name := "Op", type := 3, offset := 1, embedded := false, tag := "", pkgPath := "", byteOffset := 8 }, { name := "Under", type := 3, offset := 2, embedded := false, tag := "", pkgPath := "", byteOffset := 16 }, { name := "Parent", type := 22, offset := 3, embedded := false, tag := "", pkgPath := "", byteOffset := 24 }, { name := "Client", type := 3, offset := 4, embedded := false, tag := "", pkgPath := "", byteOffset := 32 }, { name := "Session", type := 3, offset := 5, embedded := false, tag := "", pkgPath := "", byteOffset := 40 }, { name := "Request", type := 3, offset := 6, embedded := false, tag := "", pkgPath := "", byteOffset := 48 }, { name := "Operation", type := 3, offset := 7, embedded := false, tag := "", pkgPath := "", byteOffset := 56 }, { name := "Body", type := 9, offset := 8, embedded := false, tag := "", pkgPath := "", byteOffset := 64 }] := by kernel_rfl
theorem markFields : (Tryd.prog.fieldsOf 37).toList = [{ name := "Op", type := 3, offset := 0, embedded := false, tag := "", pkgPath := "", byteOffset := 0 }, { name := "View", type := 3, offset := 1, embedded := false, tag := "", pkgPath := "", byteOffset := 8 }, { name := "Sum", type := 22, offset := 2, embedded := false, tag := "", pkgPath := "", byteOffset := 16 }] := by kernel_rfl
theorem eqEn (x : En) (W : World) : (Op.equalIn 10000 24 (.agg x.cells) (.agg x.cells)).run Tryd.prog W = .ok true W := by
  rw [run_equalIn_struct W 9999 24 x.cells x.cells (by kernel_rfl) (by kernel_rfl), entryFields]
  have x0 : x.cells[0]? = some (.int .i64 x.view) := rfl
  have x1 : x.cells[1]? = some (.int .i64 x.opn) := rfl
  have x2 : x.cells[2]? = some (.int .i64 x.under) := rfl
  have x3 : x.cells[3]? = some (.int .u64 (x.parent : Int)) := rfl
  have x4 : x.cells[4]? = some (.int .i64 x.client) := rfl
  have x5 : x.cells[5]? = some (.int .i64 x.session) := rfl
  have x6 : x.cells[6]? = some (.int .i64 x.request) := rfl
  have x7 : x.cells[7]? = some (.int .i64 x.oper) := rfl
  have x8 : x.cells[8]? = some (.string x.body) := rfl
  generalize x.cells = X at *
  rw [eqF_int (P := Tryd.prog) (W := W) 9998 X X { name := "View", type := 3, offset := 0, embedded := false, tag := "", pkgPath := "", byteOffset := 0 } _ .i64 x.view x.view (by simp) (part_int 3 X 0 _ .i64 Tryd.underlying3 sizeInt x0) (part_int 3 X 0 _ .i64 Tryd.underlying3 sizeInt x0) Tryd.underlying3, if_pos rfl]
  rw [eqF_int (P := Tryd.prog) (W := W) 9998 X X { name := "Op", type := 3, offset := 1, embedded := false, tag := "", pkgPath := "", byteOffset := 8 } _ .i64 x.opn x.opn (by simp) (part_int 3 X 1 _ .i64 Tryd.underlying3 sizeInt x1) (part_int 3 X 1 _ .i64 Tryd.underlying3 sizeInt x1) Tryd.underlying3, if_pos rfl]
  rw [eqF_int (P := Tryd.prog) (W := W) 9998 X X { name := "Under", type := 3, offset := 2, embedded := false, tag := "", pkgPath := "", byteOffset := 16 } _ .i64 x.under x.under (by simp) (part_int 3 X 2 _ .i64 Tryd.underlying3 sizeInt x2) (part_int 3 X 2 _ .i64 Tryd.underlying3 sizeInt x2) Tryd.underlying3, if_pos rfl]
  rw [eqF_int (P := Tryd.prog) (W := W) 9998 X X { name := "Parent", type := 22, offset := 3, embedded := false, tag := "", pkgPath := "", byteOffset := 24 } _ .u64 (x.parent : Int) (x.parent : Int) (by simp) (part_int 22 X 3 _ .u64 Tryd.underlying22 sizeU64 x3) (part_int 22 X 3 _ .u64 Tryd.underlying22 sizeU64 x3) Tryd.underlying22, if_pos rfl]
  rw [eqF_int (P := Tryd.prog) (W := W) 9998 X X { name := "Client", type := 3, offset := 4, embedded := false, tag := "", pkgPath := "", byteOffset := 32 } _ .i64 x.client x.client (by simp) (part_int 3 X 4 _ .i64 Tryd.underlying3 sizeInt x4) (part_int 3 X 4 _ .i64 Tryd.underlying3 sizeInt x4) Tryd.underlying3, if_pos rfl]
  rw [eqF_int (P := Tryd.prog) (W := W) 9998 X X { name := "Session", type := 3, offset := 5, embedded := false, tag := "", pkgPath := "", byteOffset := 40 } _ .i64 x.session x.session (by simp) (part_int 3 X 5 _ .i64 Tryd.underlying3 sizeInt x5) (part_int 3 X 5 _ .i64 Tryd.underlying3 sizeInt x5) Tryd.underlying3, if_pos rfl]
  rw [eqF_int (P := Tryd.prog) (W := W) 9998 X X { name := "Request", type := 3, offset := 6, embedded := false, tag := "", pkgPath := "", byteOffset := 48 } _ .i64 x.request x.request (by simp) (part_int 3 X 6 _ .i64 Tryd.underlying3 sizeInt x6) (part_int 3 X 6 _ .i64 Tryd.underlying3 sizeInt x6) Tryd.underlying3, if_pos rfl]
  rw [eqF_int (P := Tryd.prog) (W := W) 9998 X X { name := "Operation", type := 3, offset := 7, embedded := false, tag := "", pkgPath := "", byteOffset := 56 } _ .i64 x.oper x.oper (by simp) (part_int 3 X 7 _ .i64 Tryd.underlying3 sizeInt x7) (part_int 3 X 7 _ .i64 Tryd.underlying3 sizeInt x7) Tryd.underlying3, if_pos rfl]
  rw [eqF_strs (P := Tryd.prog) (W := W) 9998 X X { name := "Body", type := 9, offset := 8, embedded := false, tag := "", pkgPath := "", byteOffset := 64 } _ x.body x.body (by simp) (part_str 9 X 8 _ Tryd.underlying9 sizeStr x8) (part_str 9 X 8 _ Tryd.underlying9 sizeStr x8) Tryd.underlying9, if_pos rfl]
  rw [eqF_nil]
theorem eqMk (x y : Mk) (W : World) : (Op.equalIn 10000 37 (.agg x.cells) (.agg y.cells)).run Tryd.prog W = .ok (decide (x = y)) W := by
  rw [run_equalIn_struct W 9999 37 x.cells y.cells (by kernel_rfl) (by kernel_rfl), markFields]
  have x0 : x.cells[0]? = some (.int .i64 x.opn) := rfl
  have x1 : x.cells[1]? = some (.int .i64 x.view) := rfl
  have x2 : x.cells[2]? = some (.int .u64 (x.sum : Int)) := rfl
  have y0 : y.cells[0]? = some (.int .i64 y.opn) := rfl
  have y1 : y.cells[1]? = some (.int .i64 y.view) := rfl
  have y2 : y.cells[2]? = some (.int .u64 (y.sum : Int)) := rfl
  generalize x.cells = X at *
  generalize y.cells = Y at *
  rw [eqF_int (P := Tryd.prog) (W := W) 9998 X Y { name := "Op", type := 3, offset := 0, embedded := false, tag := "", pkgPath := "", byteOffset := 0 } _ .i64 x.opn y.opn (by simp) (part_int 3 X 0 _ .i64 Tryd.underlying3 sizeInt x0) (part_int 3 Y 0 _ .i64 Tryd.underlying3 sizeInt y0) Tryd.underlying3]
  rw [eqF_int (P := Tryd.prog) (W := W) 9998 X Y { name := "View", type := 3, offset := 1, embedded := false, tag := "", pkgPath := "", byteOffset := 8 } _ .i64 x.view y.view (by simp) (part_int 3 X 1 _ .i64 Tryd.underlying3 sizeInt x1) (part_int 3 Y 1 _ .i64 Tryd.underlying3 sizeInt y1) Tryd.underlying3]
  rw [eqF_int (P := Tryd.prog) (W := W) 9998 X Y { name := "Sum", type := 22, offset := 2, embedded := false, tag := "", pkgPath := "", byteOffset := 16 } _ .u64 (x.sum : Int) (y.sum : Int) (by simp) (part_int 22 X 2 _ .u64 Tryd.underlying22 sizeU64 x2) (part_int 22 Y 2 _ .u64 Tryd.underlying22 sizeU64 y2) Tryd.underlying22]
  rw [eqF_nil]
  obtain ⟨o1, v1, s1⟩ := x
  obtain ⟨o2, v2, s2⟩ := y
  simp only [Mk.mk.injEq]
  by_cases c0 : o1 = o2
  case neg => simp [c0]
  by_cases c1 : v1 = v2
  case neg => simp [c1]
  by_cases c2 : (s1 : Int) = (s2 : Int)
  case neg => simp [c2]; omega
  simp [*]
  omega
theorem egEn : Tryd.prog.eqGuardType Tryd.prog.depth 24 = false := by kernel_rfl
theorem egMk : Tryd.prog.eqGuardType Tryd.prog.depth 37 = false := by kernel_rfl
section
variable {ops : Array Oper} {rest : List Oper} {o : Oper} {a : Act} {w : World} {Q : Exit → Act → World → Prop}
theorem wpl_eqe (hw : Region.wanted o (yielded ops a.tmps) = true) (s : En) (x y : Operand) (ty : TypeId) (ho : o.op = .binOp .eql 24 x y ty)
    (hx : a.eval x = .agg s.cells) (hy : a.eval y = .agg s.cells) (h : wpList Tryd.prog ops Q rest (a.put o.dst (.bool true)) w) : wpList Tryd.prog ops Q (o :: rest) a w := by
  refine BigFrame.wpList_want hw fun K hK => ?_
  have hEQ := eqEn s w
  have hEG := egEn
  generalize s.cells = Z at *
  unfold Oper.wp execOp
  simp [ho, hx, hy, eqGuard, hEG, binOp, Op.equal, Op.maxDepth, hEQ, Result.andThen]
  exact hK _ _ h
theorem wpl_nee (hw : Region.wanted o (yielded ops a.tmps) = true) (s : En) (x y : Operand) (ty : TypeId) (ho : o.op = .binOp .neq 24 x y ty)
    (hx : a.eval x = .agg s.cells) (hy : a.eval y = .agg s.cells) (h : wpList Tryd.prog ops Q rest (a.put o.dst (.bool false)) w) : wpList Tryd.prog ops Q (o :: rest) a w := by
  refine BigFrame.wpList_want hw fun K hK => ?_
  have hEQ := eqEn s w
  have hEG := egEn
  generalize s.cells = Z at *
  unfold Oper.wp execOp
  simp [ho, hx, hy, eqGuard, hEG, binOp, Op.equal, Op.maxDepth, hEQ, Result.andThen]
  exact hK _ _ h
theorem wpl_eqm (hw : Region.wanted o (yielded ops a.tmps) = true) (s t : Mk) (b : Bool) (x y : Operand) (ty : TypeId) (ho : o.op = .binOp .eql 37 x y ty)
    (hx : a.eval x = .agg s.cells) (hy : a.eval y = .agg t.cells) (hb : Hid (decide (s = t) = b)) (h : wpList Tryd.prog ops Q rest (a.put o.dst (.bool b)) w) : wpList Tryd.prog ops Q (o :: rest) a w := by
  refine BigFrame.wpList_want hw fun K hK => ?_
  have hEQ := eqMk s t w
  have hEG := egMk
  rw [hb.out] at hEQ
  generalize s.cells = Z at *
  generalize t.cells = Y at *
  unfold Oper.wp execOp
  simp [ho, hx, hy, eqGuard, hEG, binOp, Op.equal, Op.maxDepth, hEQ, Result.andThen]
  exact hK _ _ h
end

/-! ### an entry that may be -/
/-- its numbers and its body are within their bounds -/
def Rt (e : En) : Prop := (1 ≤ e.opn ∧ e.opn ≤ 72057594037927935) ∧ (1 ≤ e.client ∧ e.client ≤ 72057594037927935) ∧ (0 ≤ e.view ∧ e.view ≤ 72057594037927935) ∧ (0 ≤ e.under ∧ e.under ≤ 72057594037927935) ∧
  (0 ≤ e.session ∧ e.session ≤ 72057594037927935) ∧ (0 ≤ e.request ∧ e.request ≤ 72057594037927935) ∧ (1 ≤ e.oper ∧ e.oper ≤ 255) ∧ e.under ≤ e.view ∧ (e.body.size : Int) ≤ 200
instance (e : En) : Decidable (Rt e) := by unfold Rt; infer_instance
/-- what Follows answers -/
def Fol (m : Mk) (e : En) : Prop := Rt e ∧ e.opn - 1 = m.opn ∧ e.under = m.view ∧ e.parent = m.sum
instance (m : Mk) (e : En) : Decidable (Fol m e) := by unfold Fol; infer_instance
/-- what Next answers -/
def nextS (m : Mk) (e : En) : En := ⟨e.view, if 0 ≤ m.opn ∧ m.opn ≤ 72057594037927934 then m.opn + 1 else e.opn, m.view, m.sum, e.client, e.session, e.request, e.oper, e.body⟩
/-- ints as values -/
def ivs (l : List Int) : List Value := l.map fun n => .int .i64 n
/-- all within -/
def wi (lo hi : Int) (l : List Int) : Bool := l.all fun n => decide (lo ≤ n ∧ n ≤ hi)
theorem wi_snoc (lo hi : Int) (l : List Int) (k : Nat) (h : k < l.length) (ht : wi lo hi (l.take k) = true) (hk : lo ≤ l[k] ∧ l[k] ≤ hi) : wi lo hi (l.take (k + 1)) = true := by
  rw [List.take_succ_eq_append_getElem h]
  unfold wi at ht ⊢
  rw [List.all_append, ht]
  simp [hk]
theorem wi_not (lo hi : Int) (l : List Int) (k : Nat) (h : k < l.length) (hk : ¬ (lo ≤ l[k] ∧ l[k] ≤ hi)) : wi lo hi l = false := by
  rw [← Bool.not_eq_true]
  intro e
  have := List.all_eq_true.1 e l[k] (List.getElem_mem h)
  exact hk (by simpa using this)
end Go.Proofs.YtknalgobndbngaaDoor
