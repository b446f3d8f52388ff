/-
  Stubs, entries, items held against each other.
-/
import Derived.Test.YtneacphibklbgaaDoorM12
import Derived.Test.YtneacphibklbgaaDoorM15
import Derived.Test.YtneacphibklbgaaDoorM14
namespace Go.Proofs.YtneacphibklbgaaDoor
open Go.RowKit
set_option maxRecDepth 10000

theorem stubFields : (Tryd.prog.fieldsOf 42).toList = [{ name := "Op", type := 3, offset := 0, embedded := false, tag := "", pkgPath := "", byteOffset := 0 }, { name := "View", type := 3, offset := 1, embedded := false, tag := "", pkgPath := "", byteOffset := 8 }, { name := "Under", type := 3, offset := 2, embedded := false, tag := "", pkgPath := "", byteOffset := 16 }, { name := "Parent", type := 26, offset := 3, embedded := false, tag := "", pkgPath := "", byteOffset := 24 }, { name := "Sum", type := 26, offset := 4, embedded := false, tag := "", pkgPath := "", byteOffset := 32 }] := by kernel_rfl
theorem itemFields : (Tryd.prog.fieldsOf 44).toList = [{ name := "Kind", type := 3, offset := 0, embedded := false, tag := "", pkgPath := "", byteOffset := 0 }, { name := "Stub", type := 42, offset := 1, embedded := false, tag := "", pkgPath := "", byteOffset := 8 }, { name := "Entry", type := 28, offset := 6, embedded := false, tag := "", pkgPath := "", byteOffset := 48 }] := by kernel_rfl
theorem eqSt (d : Nat) (x y : St) (W : World) : (Op.equalIn (d + 2) 42 (.agg x.cells) (.agg y.cells)).run Tryd.prog W = .ok (decide (x = y)) W := by
  rw [run_equalIn_struct W (d + 1) 42 x.cells y.cells (by kernel_rfl) (by kernel_rfl), stubFields]
  have x0 : x.cells[0]? = some (.int .i64 x.opn) := rfl
  have y0 : y.cells[0]? = some (.int .i64 y.opn) := rfl
  have x1 : x.cells[1]? = some (.int .i64 x.view) := rfl
  have y1 : y.cells[1]? = some (.int .i64 y.view) := rfl
  have x2 : x.cells[2]? = some (.int .i64 x.under) := rfl
  have y2 : y.cells[2]? = some (.int .i64 y.under) := rfl
  have x3 : x.cells[3]? = some (.int .u64 (x.parent : Int)) := rfl
  have y3 : y.cells[3]? = some (.int .u64 (y.parent : Int)) := rfl
  have x4 : x.cells[4]? = some (.int .u64 (x.sum : Int)) := rfl
  have y4 : y.cells[4]? = some (.int .u64 (y.sum : Int)) := rfl
  generalize x.cells = X at *
  generalize y.cells = Y at *
  rw [eqF_int (P := Tryd.prog) (W := W) d X Y { name := "Op", type := 3, offset := 0, embedded := false, tag := "", pkgPath := "", byteOffset := 0 } _ .i64 x.opn y.opn (by simp) (part_int 3 X 0 _ .i64 Tryd.underlying3 sizeInt x0) (part_int 3 Y 0 _ .i64 Tryd.underlying3 sizeInt y0) Tryd.underlying3]
  rw [eqF_int (P := Tryd.prog) (W := W) d X Y { name := "View", type := 3, offset := 1, embedded := false, tag := "", pkgPath := "", byteOffset := 8 } _ .i64 x.view y.view (by simp) (part_int 3 X 1 _ .i64 Tryd.underlying3 sizeInt x1) (part_int 3 Y 1 _ .i64 Tryd.underlying3 sizeInt y1) Tryd.underlying3]
  rw [eqF_int (P := Tryd.prog) (W := W) d X Y { name := "Under", type := 3, offset := 2, embedded := false, tag := "", pkgPath := "", byteOffset := 16 } _ .i64 x.under y.under (by simp) (part_int 3 X 2 _ .i64 Tryd.underlying3 sizeInt x2) (part_int 3 Y 2 _ .i64 Tryd.underlying3 sizeInt y2) Tryd.underlying3]
  rw [eqF_int (P := Tryd.prog) (W := W) d X Y { name := "Parent", type := 26, offset := 3, embedded := false, tag := "", pkgPath := "", byteOffset := 24 } _ .u64 (x.parent : Int) (y.parent : Int) (by simp) (part_int 26 X 3 _ .u64 Tryd.underlying26 sizeU64 x3) (part_int 26 Y 3 _ .u64 Tryd.underlying26 sizeU64 y3) Tryd.underlying26]
  rw [eqF_int (P := Tryd.prog) (W := W) d X Y { name := "Sum", type := 26, offset := 4, embedded := false, tag := "", pkgPath := "", byteOffset := 32 } _ .u64 (x.sum : Int) (y.sum : Int) (by simp) (part_int 26 X 4 _ .u64 Tryd.underlying26 sizeU64 x4) (part_int 26 Y 4 _ .u64 Tryd.underlying26 sizeU64 y4) Tryd.underlying26]
  rw [eqF_nil]
  obtain ⟨o1, v1, u1, p1, s1⟩ := x
  obtain ⟨o2, v2, u2, p2, s2⟩ := y
  simp only [St.mk.injEq]
  by_cases c0 : o1 = o2
  case neg => simp [c0]
  by_cases c1 : v1 = v2
  case neg => simp [c1]
  by_cases c2 : u1 = u2
  case neg => simp [c2]
  by_cases c3 : (p1 : Int) = (p2 : Int)
  case neg => simp [c3]; omega
  by_cases c4 : (s1 : Int) = (s2 : Int)
  case neg => simp [c4]; omega
  simp [*]
  omega
theorem eqEn2 (d : Nat) (x y : En) (b : Bool) (hb : b = true ↔ x = y) (W : World) : (Op.equalIn (d + 2) 28 (.agg x.cells) (.agg y.cells)).run Tryd.prog W = .ok b W := by
  rw [run_equalIn_struct W (d + 1) 28 x.cells y.cells (by kernel_rfl) (by kernel_rfl), entryFields]
  have x0 : x.cells[0]? = some (.int .i64 x.view) := rfl
  have y0 : y.cells[0]? = some (.int .i64 y.view) := rfl
  have x1 : x.cells[1]? = some (.int .i64 x.opn) := rfl
  have y1 : y.cells[1]? = some (.int .i64 y.opn) := rfl
  have x2 : x.cells[2]? = some (.int .i64 x.under) := rfl
  have y2 : y.cells[2]? = some (.int .i64 y.under) := rfl
  have x3 : x.cells[3]? = some (.int .u64 (x.parent : Int)) := rfl
  have y3 : y.cells[3]? = some (.int .u64 (y.parent : Int)) := rfl
  have x4 : x.cells[4]? = some (.int .i64 x.client) := rfl
  have y4 : y.cells[4]? = some (.int .i64 y.client) := rfl
  have x5 : x.cells[5]? = some (.int .i64 x.session) := rfl
  have y5 : y.cells[5]? = some (.int .i64 y.session) := rfl
  have x6 : x.cells[6]? = some (.int .i64 x.request) := rfl
  have y6 : y.cells[6]? = some (.int .i64 y.request) := rfl
  have x7 : x.cells[7]? = some (.int .i64 x.oper) := rfl
  have y7 : y.cells[7]? = some (.int .i64 y.oper) := rfl
  have x8 : x.cells[8]? = some (.string x.body) := rfl
  have y8 : y.cells[8]? = some (.string y.body) := rfl
  generalize x.cells = X at *
  generalize y.cells = Y at *
  rw [eqF_int (P := Tryd.prog) (W := W) d X Y { name := "View", type := 3, offset := 0, embedded := false, tag := "", pkgPath := "", byteOffset := 0 } _ .i64 x.view y.view (by simp) (part_int 3 X 0 _ .i64 Tryd.underlying3 sizeInt x0) (part_int 3 Y 0 _ .i64 Tryd.underlying3 sizeInt y0) Tryd.underlying3]
  rw [eqF_int (P := Tryd.prog) (W := W) d X Y { name := "Op", type := 3, offset := 1, embedded := false, tag := "", pkgPath := "", byteOffset := 8 } _ .i64 x.opn y.opn (by simp) (part_int 3 X 1 _ .i64 Tryd.underlying3 sizeInt x1) (part_int 3 Y 1 _ .i64 Tryd.underlying3 sizeInt y1) Tryd.underlying3]
  rw [eqF_int (P := Tryd.prog) (W := W) d X Y { name := "Under", type := 3, offset := 2, embedded := false, tag := "", pkgPath := "", byteOffset := 16 } _ .i64 x.under y.under (by simp) (part_int 3 X 2 _ .i64 Tryd.underlying3 sizeInt x2) (part_int 3 Y 2 _ .i64 Tryd.underlying3 sizeInt y2) Tryd.underlying3]
  rw [eqF_int (P := Tryd.prog) (W := W) d X Y { name := "Parent", type := 26, offset := 3, embedded := false, tag := "", pkgPath := "", byteOffset := 24 } _ .u64 (x.parent : Int) (y.parent : Int) (by simp) (part_int 26 X 3 _ .u64 Tryd.underlying26 sizeU64 x3) (part_int 26 Y 3 _ .u64 Tryd.underlying26 sizeU64 y3) Tryd.underlying26]
  rw [eqF_int (P := Tryd.prog) (W := W) d X Y { name := "Client", type := 3, offset := 4, embedded := false, tag := "", pkgPath := "", byteOffset := 32 } _ .i64 x.client y.client (by simp) (part_int 3 X 4 _ .i64 Tryd.underlying3 sizeInt x4) (part_int 3 Y 4 _ .i64 Tryd.underlying3 sizeInt y4) Tryd.underlying3]
  rw [eqF_int (P := Tryd.prog) (W := W) d X Y { name := "Session", type := 3, offset := 5, embedded := false, tag := "", pkgPath := "", byteOffset := 40 } _ .i64 x.session y.session (by simp) (part_int 3 X 5 _ .i64 Tryd.underlying3 sizeInt x5) (part_int 3 Y 5 _ .i64 Tryd.underlying3 sizeInt y5) Tryd.underlying3]
  rw [eqF_int (P := Tryd.prog) (W := W) d X Y { name := "Request", type := 3, offset := 6, embedded := false, tag := "", pkgPath := "", byteOffset := 48 } _ .i64 x.request y.request (by simp) (part_int 3 X 6 _ .i64 Tryd.underlying3 sizeInt x6) (part_int 3 Y 6 _ .i64 Tryd.underlying3 sizeInt y6) Tryd.underlying3]
  rw [eqF_int (P := Tryd.prog) (W := W) d X Y { name := "Operation", type := 3, offset := 7, embedded := false, tag := "", pkgPath := "", byteOffset := 56 } _ .i64 x.oper y.oper (by simp) (part_int 3 X 7 _ .i64 Tryd.underlying3 sizeInt x7) (part_int 3 Y 7 _ .i64 Tryd.underlying3 sizeInt y7) Tryd.underlying3]
  rw [eqF_strs (P := Tryd.prog) (W := W) d X Y { name := "Body", type := 9, offset := 8, embedded := false, tag := "", pkgPath := "", byteOffset := 64 } _ x.body y.body (by simp) (part_str 9 X 8 _ Tryd.underlying9 sizeStr x8) (part_str 9 Y 8 _ Tryd.underlying9 sizeStr y8) Tryd.underlying9]
  rw [eqF_nil]
  clear x0 y0 x1 y1 x2 y2 x3 y3 x4 y4 x5 y5 x6 y6 x7 y7 x8 y8
  obtain ⟨a1, a2, a3, a4, a5, a6, a7, a8, a9⟩ := x
  obtain ⟨b1, b2, b3, b4, b5, b6, b7, b8, b9⟩ := y
  simp only [En.mk.injEq] at hb
  simp only
  by_cases h : b = true
  · obtain ⟨rfl, rfl, rfl, rfl, rfl, rfl, rfl, rfl, rfl⟩ := hb.1 h
    subst h
    simp
  · have hn := fun q => h (hb.2 q)
    rw [Bool.eq_false_iff.2 h]
    clear hb h
    by_cases c0 : a1 = b1
    case neg => simp [c0]
    by_cases c1 : a2 = b2
    case neg => simp [c1]
    by_cases c2 : a3 = b3
    case neg => simp [c2]
    by_cases c3 : (a4 : Int) = (b4 : Int)
    case neg => simp [c3]
    by_cases c4 : a5 = b5
    case neg => simp [c4]
    by_cases c5 : a6 = b6
    case neg => simp [c5]
    by_cases c6 : a7 = b7
    case neg => simp [c6]
    by_cases c7 : a8 = b8
    case neg => simp [c7]
    by_cases c8 : a9 = b9
    case neg => simp [c8]
    exact absurd ⟨c0, c1, c2, by omega, c4, c5, c6, c7, c8⟩ hn
theorem eqF_agg {P : Program} {W : World} (d : Nat) (xs ys : Array Value) (f : Field) (fs : List Field) (X Y : Array Value) (b : Bool) (hn : f.name ≠ "_") (hx : (part f.type xs f.offset).run P W = .ok (.agg X) W) (hy : (part f.type ys f.offset).run P W = .ok (.agg Y) W)
    (hE : (Op.equalIn (d + 1) f.type (.agg X) (.agg Y)).run P W = .ok b W) : (Op.eqFields (d + 1) xs ys (f :: fs)).run P W = if b = true then (Op.eqFields (d + 1) xs ys fs).run P W else .ok false W := by
  simp only [Op.eqFields, if_pos hn, Sem.run_bind, hx, hy, Result.andThen_ok, hE]
  cases b <;> simp
theorem part_stub (x : It) (W : World) : (part 42 x.cells 1).run Tryd.prog W = .ok (.agg x.stub.cells) W := by kernel_rfl
theorem part_entry (x : It) (W : World) : (part 28 x.cells 6).run Tryd.prog W = .ok (.agg x.entry.cells) W := by kernel_rfl
theorem part_kind (x : It) (W : World) : (part 3 x.cells 0).run Tryd.prog W = .ok (.int .i64 x.kind) W := by kernel_rfl
theorem eqIt (d : Nat) (x y : It) (W : World) (b : Bool) (h : (b = true ∧ x = y) ∨ (b = false ∧ x.kind ≠ y.kind)) : (Op.equalIn (d + 4) 44 (.agg x.cells) (.agg y.cells)).run Tryd.prog W = .ok b W := by
  rw [run_equalIn_struct W (d + 3) 44 x.cells y.cells (by kernel_rfl) (by kernel_rfl), itemFields]
  rw [eqF_int (P := Tryd.prog) (W := W) (d + 2) x.cells y.cells { name := "Kind", type := 3, offset := 0, embedded := false, tag := "", pkgPath := "", byteOffset := 0 } _ .i64 x.kind y.kind (by simp) (part_kind x W) (part_kind y W) Tryd.underlying3]
  rcases h with ⟨rfl, rfl⟩ | ⟨rfl, h⟩
  · rw [if_pos rfl]
    rw [eqF_agg (P := Tryd.prog) (W := W) (d + 2) x.cells x.cells { name := "Stub", type := 42, offset := 1, embedded := false, tag := "", pkgPath := "", byteOffset := 8 } _ x.stub.cells x.stub.cells (decide (x.stub = x.stub)) (by simp) (part_stub x W) (part_stub x W) (eqSt (d + 1) x.stub x.stub W)]
    rw [if_pos (by simp)]
    rw [eqF_agg (P := Tryd.prog) (W := W) (d + 2) x.cells x.cells { name := "Entry", type := 28, offset := 6, embedded := false, tag := "", pkgPath := "", byteOffset := 48 } _ x.entry.cells x.entry.cells true (by simp) (part_entry x W) (part_entry x W) (eqEn2 (d + 1) x.entry x.entry true (by simp) W)]
    rw [if_pos rfl, eqF_nil]
  · rw [if_neg h]
theorem wpl_run {P : Program} {ops : Array Oper} {rest : List Oper} {o : Oper} {a : Act} {w : World} {Q : Exit → Act → World → Prop} (hw : Region.wanted o (yielded ops a.tmps) = true) (v : Value) (hrun : ∀ w, (execOp a.eval o).run P w = .ok (.value v) w)
    (h : wpList P ops Q rest (a.put o.dst v) w) : wpList P ops Q (o :: rest) a w := by
  refine BigFrame.wpList_want hw fun K hK => ?_
  unfold Oper.wp
  rw [hrun, Oper.upon_value]
  exact hK _ _ h
theorem egSt : Tryd.prog.eqGuardType Tryd.prog.depth 42 = false := by kernel_rfl
theorem egIt : Tryd.prog.eqGuardType Tryd.prog.depth 44 = false := by kernel_rfl
theorem wpl_load_midw {P : Program} {ops : Array Oper} {rest : List Oper} {o : Oper} {a : Act} {w : World} {Q : Exit → Act → World → Prop} (hw : Region.wanted o (yielded ops a.tmps) = true) (ty : TypeId) (x : Operand) (ho : o.op = .load ty x)
    (b k : Nat) (hx : a.eval x = .pointer (some ⟨b, k, none⟩)) (cs : List Value) (d : TypeDesc) (hc : w.rangeAt b k cs)
    (hu : P.underlying ty = some d) (hd : d.isRow = true) (hi : (P.info? ty).map (·.size) = some cs.length)
    (h : wpList P ops Q rest (a.put o.dst (.agg cs.toArray)) w) : wpList P ops Q (o :: rest) a w :=
  BigFrame.wpList_want hw fun _ hK => wp_load_mid ty x ho b k hx cs d hc hu hd hi (hK _ _ h)
theorem item_entry {W : World} {g : Nat} (x : It) (h : Row W g 44 x.cells.toList) : W.rangeAt g 6 x.entry.cells.toList := fun j v hv => by
  rw [h.cell]
  have e : x.cells.toList = [.int .i64 x.kind, .int .i64 x.stub.opn, .int .i64 x.stub.view, .int .i64 x.stub.under, .int .u64 (x.stub.parent : Int), .int .u64 (x.stub.sum : Int)] ++ x.entry.cells.toList := rfl
  rw [e, List.getElem?_append_right (by simp)]
  simpa using hv
section
variable {ops : Array Oper} {rest : List Oper} {o : Oper} {a : Act} {w : World} {Q : Exit → Act → World → Prop}
theorem wpl_eqs (hw : Region.wanted o (yielded ops a.tmps) = true) (s t : St) (b : Bool) (x y : Operand) (ty : TypeId) (ho : o.op = .binOp .eql 42 x y ty)
    (hx : a.eval x = .agg s.cells) (hy : a.eval y = .agg t.cells) (hb : Hid (decide (s = t) = b)) (h : wpList Tryd.prog ops Q rest (a.put o.dst (.bool b)) w) : wpList Tryd.prog ops Q (o :: rest) a w := by
  refine BigFrame.wpList_want hw fun K hK => ?_
  have hEQ := hb.out ▸ eqSt 9998 s t w
  have hEG := egSt
  generalize s.cells = Z at *
  generalize t.cells = Y at *
  unfold Oper.wp execOp
  simp [ho, hx, hy, eqGuard, hEG, binOp, Op.equal, Op.maxDepth, hEQ, Result.andThen]
  exact hK _ _ h
theorem wpl_eqe2 (hw : Region.wanted o (yielded ops a.tmps) = true) (s t : En) (b : Bool) (x y : Operand) (ty : TypeId) (ho : o.op = .binOp .eql 28 x y ty)
    (hx : a.eval x = .agg s.cells) (hy : a.eval y = .agg t.cells) (hb : Hid (b = true ↔ s = t)) (h : wpList Tryd.prog ops Q rest (a.put o.dst (.bool b)) w) : wpList Tryd.prog ops Q (o :: rest) a w := by
  refine BigFrame.wpList_want hw fun K hK => ?_
  have hEQ := eqEn2 9998 s t b hb.out w
  have hEG := egEn
  generalize s.cells = Z at *
  generalize t.cells = Y at *
  unfold Oper.wp execOp
  simp [ho, hx, hy, eqGuard, hEG, binOp, Op.equal, Op.maxDepth, hEQ, Result.andThen]
  exact hK _ _ h
theorem wpl_eqi (hw : Region.wanted o (yielded ops a.tmps) = true) (s t : It) (b : Bool) (x y : Operand) (ty : TypeId) (ho : o.op = .binOp .eql 44 x y ty)
    (hx : a.eval x = .agg s.cells) (hy : a.eval y = .agg t.cells) (hb : Hid ((b = true ∧ s = t) ∨ (b = false ∧ s.kind ≠ t.kind))) (h : wpList Tryd.prog ops Q rest (a.put o.dst (.bool b)) w) : wpList Tryd.prog ops Q (o :: rest) a w := by
  refine BigFrame.wpList_want hw fun K hK => ?_
  have hEQ := eqIt 9996 s t w b hb.out
  have hEG := egIt
  generalize s.cells = Z at *
  generalize t.cells = Y at *
  unfold Oper.wp execOp
  simp [ho, hx, hy, eqGuard, hEG, binOp, Op.equal, Op.maxDepth, hEQ, Result.andThen]
  exact hK _ _ h
end
theorem yields_nes {ops : Array Oper} {S : World → Prop} {o : Oper} {a : Act} (hw : Region.wanted o (yielded ops a.tmps) = true) (s t : St) (b : Bool) (hb : Hid (decide (s = t) = b)) (x y : Operand) (ty : TypeId) (ho : o.op = .binOp .neq 42 x y ty)
    (hx : a.eval x = .agg s.cells) (hy : a.eval y = .agg t.cells) : YieldsIf Tryd.prog ops S o (.bool (!b)) a :=
  .inl ⟨hw, fun w _ => by
    have hEG := egSt
    have hE := eqSt 9998 s t w
    rw [hb.out] at hE
    generalize s.cells = Z at *
    generalize t.cells = Y at *
    unfold execOp
    simp [ho, hx, hy, eqGuard, hEG, binOp, Op.equal, Op.maxDepth, hE, Result.andThen]⟩
end Go.Proofs.YtneacphibklbgaaDoor
/-
  The walk of package slot's Judge.
-/
namespace Go.Proofs.YtneacphibklbgaaDoor
open Go.RowKit
set_option maxRecDepth 10000

theorem isize : (Tryd.prog.info? 44).map (·.size) = some 15 := by kernel_rfl
set_option maxHeartbeats 1000000 in
theorem sjudge_1 (p h : ByteArray) (n : Int) (e : En) (s t : St) (bk br : Bool) (w : World) (hf : Fd w) (hon : (s.opn == n) = true) (heq : Hid (decide (t = s) = true))
    (HE : Hid (∀ W : World, Fd W → Calls Tryd.prog 51 #[.string p] W (LQ W #[.int .i64 e.view, .int .i64 e.opn, .int .i64 e.under, .int .u64 (e.parent : Int), .int .i64 e.client, .int .i64 e.session, .int .i64 e.request, .int .i64 e.oper, .string e.body] bk br)))
    (HS : Hid (∀ W : World, Calls Tryd.prog 52 #[.string h] W (LQ W #[.int .i64 s.opn, .int .i64 s.view, .int .i64 s.under, .int .u64 (s.parent : Int), .int .u64 (s.sum : Int)] true true)))
    (HT : Hid (∀ W : World, Fd W → Calls Tryd.prog 13 #[.agg #[.int .i64 e.view, .int .i64 e.opn, .int .i64 e.under, .int .u64 (e.parent : Int), .int .i64 e.client, .int .i64 e.session, .int .i64 e.request, .int .i64 e.oper, .string e.body]] W (VE W (.agg #[.int .i64 t.opn, .int .i64 t.view, .int .i64 t.under, .int .u64 (t.parent : Int), .int .u64 (t.sum : Int)])))) :
    Calls Tryd.prog 27 #[.string p, .string h, .int .i64 n] w (VE w (⟨1, t, e⟩ : It).val) := by
  have HZE := hid esize
  have HZS := hid stsize
  have HZI := hid isize
  have HFd := hid hf
  clear hf
  go_enter Tryd.func27, Tryd.ntmps27
  go_wp2_with (first
    | (go_at_call 51; refine (HE.out _ (HFd.out.below ((Below.refl w.heap.size w).alloc (Nat.le_refl _) _) HFd.out.1)).mono ?_; rintro x w1 ⟨rfl, hb1⟩; have hri := (Row.new w 44 #[.int .i64 0, .int .i64 0, .int .i64 0, .int .i64 0, .int .u64 0, .int .u64 0, .int .i64 0, .int .i64 0, .int .i64 0, .int .u64 0, .int .i64 0, .int .i64 0, .int .i64 0, .int .i64 0, .string ⟨#[]⟩]).below hb1 (by simp); have hbe := ((Below.refl w.heap.size w).alloc (Nat.le_refl _) (.cells #[.int .i64 0, .int .i64 0, .int .i64 0, .int .i64 0, .int .u64 0, .int .u64 0, .int .i64 0, .int .i64 0, .int .i64 0, .int .u64 0, .int .i64 0, .int .i64 0, .int .i64 0, .int .i64 0, .string ⟨#[]⟩] 44)).trans (hb1.mono (by simp)))
    | ((with_reducible show wpList _ _ _ ({ dst := none, op := .store _ (.tmp 7) (.tmp 17), type := _, pos := _, after := _, guard := _ } :: _) _ _); refine wpl_store_st rfl (.tmp 7) (.tmp 17) rfl (n := 9) HZE.out w1.heap.size #[.int .i64 0, .int .i64 0, .int .i64 0, .int .u64 0, .int .i64 0, .int .i64 0, .int .i64 0, .int .i64 0, .string ⟨#[]⟩] #[.int .i64 e.view, .int .i64 e.opn, .int .i64 e.under, .int .u64 (e.parent : Int), .int .i64 e.client, .int .i64 e.session, .int .i64 e.request, .int .i64 e.oper, .string e.body] rfl rfl (Row.new _ _ _) ?_ (hid rfl) (hid rfl) (hid (ecells_one e)); intro w2 hre HB2; replace hri := (hri.alloc (.cells #[.int .i64 0, .int .i64 0, .int .i64 0, .int .u64 0, .int .i64 0, .int .i64 0, .int .i64 0, .int .i64 0, .string ⟨#[]⟩] 28)).grown HB2 (by have := hri.lt; intro e; have := Option.some.inj e; omega); replace hbe := (hbe.alloc hbe.size (.cells #[.int .i64 0, .int .i64 0, .int .i64 0, .int .u64 0, .int .i64 0, .int .i64 0, .int .i64 0, .int .i64 0, .string ⟨#[]⟩] 28)).trans (below_grown HB2 hbe.size (by have := hbe.size; simp; omega)))
    | (go_at_call 52; refine (HS.out _).mono ?_; rintro x w3 ⟨rfl, hb3⟩; replace hri := hri.below hb3 hri.lt; replace hre := hre.below hb3 hre.lt; replace hbe := hbe.trans (hb3.mono hbe.size))
    | ((with_reducible show wpList _ _ _ ({ dst := none, op := .store _ (.tmp 10) (.tmp 23), type := _, pos := _, after := _, guard := _ } :: _) _ _); refine wpl_store_st rfl (.tmp 10) (.tmp 23) rfl (n := 5) HZS.out w3.heap.size #[.int .i64 0, .int .i64 0, .int .i64 0, .int .u64 0, .int .u64 0] #[.int .i64 s.opn, .int .i64 s.view, .int .i64 s.under, .int .u64 (s.parent : Int), .int .u64 (s.sum : Int)] rfl rfl (Row.new _ _ _) ?_ (hid rfl) (hid rfl) (hid (stcells_one s)); intro w4 hrs HB4; replace hri := (hri.alloc (.cells #[.int .i64 0, .int .i64 0, .int .i64 0, .int .u64 0, .int .u64 0] 42)).grown HB4 (by have := hri.lt; intro e; have := Option.some.inj e; omega); replace hre := (hre.alloc (.cells #[.int .i64 0, .int .i64 0, .int .i64 0, .int .u64 0, .int .u64 0] 42)).grown HB4 (by have := hre.lt; intro e; have := Option.some.inj e; omega); replace hbe := (hbe.alloc hbe.size (.cells #[.int .i64 0, .int .i64 0, .int .i64 0, .int .u64 0, .int .u64 0] 42)).trans (below_grown HB4 hbe.size (by have := hbe.size; simp; omega)))
    | ((with_reducible show wpList _ _ _ ({ dst := some 26, op := _, type := _, pos := _, after := _, guard := _ } :: _) _ _); refine wpList_load_row rfl 28 (.tmp 7) rfl w1.heap.size rfl 28 #[.int .i64 e.view, .int .i64 e.opn, .int .i64 e.under, .int .u64 (e.parent : Int), .int .i64 e.client, .int .i64 e.session, .int .i64 e.request, .int .i64 e.oper, .string e.body] (0, 0) _ (Row.arr (cs := #[.int .i64 e.view, .int .i64 e.opn, .int .i64 e.under, .int .u64 (e.parent : Int), .int .i64 e.client, .int .i64 e.session, .int .i64 e.request, .int .i64 e.oper, .string e.body]) hre) Tryd.underlying28 rfl HZE.out ?_)
    | (go_at_call 13; refine (HT.out _ (HFd.out.below hbe HFd.out.1)).mono ?_; rintro x w5 ⟨rfl, hb5⟩; replace hri := hri.below hb5 hri.lt; replace hre := hre.below hb5 hre.lt; replace hrs := hrs.below hb5 hrs.lt; replace hbe := hbe.trans (hb5.mono hbe.size))
    | ((with_reducible show wpList _ _ _ ({ dst := none, op := .store _ (.tmp 13) (.tmp 27), type := _, pos := _, after := _, guard := _ } :: _) _ _); refine wpl_store_st rfl (.tmp 13) (.tmp 27) rfl (n := 5) HZS.out w5.heap.size #[.int .i64 0, .int .i64 0, .int .i64 0, .int .u64 0, .int .u64 0] #[.int .i64 t.opn, .int .i64 t.view, .int .i64 t.under, .int .u64 (t.parent : Int), .int .u64 (t.sum : Int)] rfl rfl (Row.new _ _ _) ?_ (hid rfl) (hid rfl) (hid (stcells_one t)); intro w6 hro HB6; replace hri := (hri.alloc (.cells #[.int .i64 0, .int .i64 0, .int .i64 0, .int .u64 0, .int .u64 0] 42)).grown HB6 (by have := hri.lt; intro e; have := Option.some.inj e; omega); replace hre := (hre.alloc (.cells #[.int .i64 0, .int .i64 0, .int .i64 0, .int .u64 0, .int .u64 0] 42)).grown HB6 (by have := hre.lt; intro e; have := Option.some.inj e; omega); replace hrs := (hrs.alloc (.cells #[.int .i64 0, .int .i64 0, .int .i64 0, .int .u64 0, .int .u64 0] 42)).grown HB6 (by have := hrs.lt; intro e; have := Option.some.inj e; omega); replace hbe := (hbe.alloc hbe.size (.cells #[.int .i64 0, .int .i64 0, .int .i64 0, .int .u64 0, .int .u64 0] 42)).trans (below_grown HB6 hbe.size (by have := hbe.size; simp; omega)); have he1 := hre.at_ 1 _ rfl; have hs0 := hrs.at_ 0 _ rfl)
    | ((with_reducible show wpList _ _ _ ({ dst := some 37, op := _, type := _, pos := _, after := _, guard := _ } :: _) _ _); refine wpl_load_want rfl 42 (.tmp 13) rfl w5.heap.size rfl 42 #[.int .i64 t.opn, .int .i64 t.view, .int .i64 t.under, .int .u64 (t.parent : Int), .int .u64 (t.sum : Int)] (0, 0) _ (Row.arr (cs := #[.int .i64 t.opn, .int .i64 t.view, .int .i64 t.under, .int .u64 (t.parent : Int), .int .u64 (t.sum : Int)]) hro) Tryd.underlying42 rfl HZS.out ?_)
    | ((with_reducible show wpList _ _ _ ({ dst := some 38, op := _, type := _, pos := _, after := _, guard := _ } :: _) _ _); refine wpl_load_want rfl 42 (.tmp 10) rfl w3.heap.size rfl 42 #[.int .i64 s.opn, .int .i64 s.view, .int .i64 s.under, .int .u64 (s.parent : Int), .int .u64 (s.sum : Int)] (0, 0) _ (Row.arr (cs := #[.int .i64 s.opn, .int .i64 s.view, .int .i64 s.under, .int .u64 (s.parent : Int), .int .u64 (s.sum : Int)]) hrs) Tryd.underlying42 rfl HZS.out ?_)
    | ((with_reducible show wpList _ _ _ ({ dst := some 39, op := _, type := _, pos := _, after := _, guard := _ } :: _) _ _); refine wpl_eqs rfl t s true (.tmp 37) (.tmp 38) _ rfl rfl rfl heq ?_)
    | ((with_reducible show wpList _ _ _ ({ dst := some 41, op := _, type := _, pos := _, after := _, guard := _ } :: _) _ _); refine wpl_load_want rfl 42 (.tmp 13) rfl w5.heap.size rfl 42 #[.int .i64 t.opn, .int .i64 t.view, .int .i64 t.under, .int .u64 (t.parent : Int), .int .u64 (t.sum : Int)] (0, 0) _ (Row.arr (cs := #[.int .i64 t.opn, .int .i64 t.view, .int .i64 t.under, .int .u64 (t.parent : Int), .int .u64 (t.sum : Int)]) hro) Tryd.underlying42 rfl HZS.out ?_)
    | ((with_reducible show wpList _ _ _ ({ dst := some 42, op := _, type := _, pos := _, after := _, guard := _ } :: _) _ _); refine wpl_load_want rfl 28 (.tmp 7) rfl w1.heap.size rfl 28 #[.int .i64 e.view, .int .i64 e.opn, .int .i64 e.under, .int .u64 (e.parent : Int), .int .i64 e.client, .int .i64 e.session, .int .i64 e.request, .int .i64 e.oper, .string e.body] (0, 0) _ (Row.arr (cs := #[.int .i64 e.view, .int .i64 e.opn, .int .i64 e.under, .int .u64 (e.parent : Int), .int .i64 e.client, .int .i64 e.session, .int .i64 e.request, .int .i64 e.oper, .string e.body]) hre) Tryd.underlying28 rfl HZE.out ?_)
    | ((with_reducible show wpList _ _ _ ({ dst := none, op := .store _ (.tmp 6) (.tmp 43), type := _, pos := _, after := _, guard := _ } :: _) _ _); refine wpl_store_st rfl (.tmp 6) (.tmp 43) rfl (n := 15) HZI.out w.heap.size #[.int .i64 0, .int .i64 0, .int .i64 0, .int .i64 0, .int .u64 0, .int .u64 0, .int .i64 0, .int .i64 0, .int .i64 0, .int .u64 0, .int .i64 0, .int .i64 0, .int .i64 0, .int .i64 0, .string ⟨#[]⟩] #[.int .i64 1, .int .i64 t.opn, .int .i64 t.view, .int .i64 t.under, .int .u64 (t.parent : Int), .int .u64 (t.sum : Int), .int .i64 e.view, .int .i64 e.opn, .int .i64 e.under, .int .u64 (e.parent : Int), .int .i64 e.client, .int .i64 e.session, .int .i64 e.request, .int .i64 e.oper, .string e.body] rfl rfl hri ?_ (hid rfl) (hid rfl) (hid (by simp [Value.oneCell'])); intro w7 hr7 HB7))
  exact bodyPost_ret (v := .agg #[.int .i64 1, .int .i64 t.opn, .int .i64 t.view, .int .i64 t.under, .int .u64 (t.parent : Int), .int .u64 (t.sum : Int), .int .i64 e.view, .int .i64 e.opn, .int .i64 e.under, .int .u64 (e.parent : Int), .int .i64 e.client, .int .i64 e.session, .int .i64 e.request, .int .i64 e.oper, .string e.body]) (results_cell_row rfl _ _ w.heap.size 44 #[.int .i64 1, .int .i64 t.opn, .int .i64 t.view, .int .i64 t.under, .int .u64 (t.parent : Int), .int .u64 (t.sum : Int), .int .i64 e.view, .int .i64 e.opn, .int .i64 e.under, .int .u64 (e.parent : Int), .int .i64 e.client, .int .i64 e.session, .int .i64 e.request, .int .i64 e.oper, .string e.body] (0, 0) _ rfl (Row.arr (cs := #[.int .i64 1, .int .i64 t.opn, .int .i64 t.view, .int .i64 t.under, .int .u64 (t.parent : Int), .int .u64 (t.sum : Int), .int .i64 e.view, .int .i64 e.opn, .int .i64 e.under, .int .u64 (e.parent : Int), .int .i64 e.client, .int .i64 e.session, .int .i64 e.request, .int .i64 e.oper, .string e.body]) hr7) Tryd.underlying44 rfl HZI.out) rfl ⟨rfl, hbe.trans (below_grown HB7 (Nat.le_refl _) hbe.size)⟩
set_option maxHeartbeats 1000000 in
theorem sjudge_2 (p h : ByteArray) (n : Int) (e : En) (s t : St) (bk br : Bool) (w : World) (hf : Fd w) (hon : (s.opn == n) = true) (heq : Hid (decide (t = s) = false))
    (HE : Hid (∀ W : World, Fd W → Calls Tryd.prog 51 #[.string p] W (LQ W #[.int .i64 e.view, .int .i64 e.opn, .int .i64 e.under, .int .u64 (e.parent : Int), .int .i64 e.client, .int .i64 e.session, .int .i64 e.request, .int .i64 e.oper, .string e.body] bk br)))
    (HS : Hid (∀ W : World, Calls Tryd.prog 52 #[.string h] W (LQ W #[.int .i64 s.opn, .int .i64 s.view, .int .i64 s.under, .int .u64 (s.parent : Int), .int .u64 (s.sum : Int)] true true)))
    (HT : Hid (∀ W : World, Fd W → Calls Tryd.prog 13 #[.agg #[.int .i64 e.view, .int .i64 e.opn, .int .i64 e.under, .int .u64 (e.parent : Int), .int .i64 e.client, .int .i64 e.session, .int .i64 e.request, .int .i64 e.oper, .string e.body]] W (VE W (.agg #[.int .i64 t.opn, .int .i64 t.view, .int .i64 t.under, .int .u64 (t.parent : Int), .int .u64 (t.sum : Int)])))) :
    Calls Tryd.prog 27 #[.string p, .string h, .int .i64 n] w (VE w (⟨2, s, en0⟩ : It).val) := by
  have HZE := hid esize
  have HZS := hid stsize
  have HZI := hid isize
  have HFd := hid hf
  clear hf
  go_enter Tryd.func27, Tryd.ntmps27
  go_wp2_with (first
    | (go_at_call 51; refine (HE.out _ (HFd.out.below ((Below.refl w.heap.size w).alloc (Nat.le_refl _) _) HFd.out.1)).mono ?_; rintro x w1 ⟨rfl, hb1⟩; have hri := (Row.new w 44 #[.int .i64 0, .int .i64 0, .int .i64 0, .int .i64 0, .int .u64 0, .int .u64 0, .int .i64 0, .int .i64 0, .int .i64 0, .int .u64 0, .int .i64 0, .int .i64 0, .int .i64 0, .int .i64 0, .string ⟨#[]⟩]).below hb1 (by simp); have hbe := ((Below.refl w.heap.size w).alloc (Nat.le_refl _) (.cells #[.int .i64 0, .int .i64 0, .int .i64 0, .int .i64 0, .int .u64 0, .int .u64 0, .int .i64 0, .int .i64 0, .int .i64 0, .int .u64 0, .int .i64 0, .int .i64 0, .int .i64 0, .int .i64 0, .string ⟨#[]⟩] 44)).trans (hb1.mono (by simp)))
    | ((with_reducible show wpList _ _ _ ({ dst := none, op := .store _ (.tmp 7) (.tmp 17), type := _, pos := _, after := _, guard := _ } :: _) _ _); refine wpl_store_st rfl (.tmp 7) (.tmp 17) rfl (n := 9) HZE.out w1.heap.size #[.int .i64 0, .int .i64 0, .int .i64 0, .int .u64 0, .int .i64 0, .int .i64 0, .int .i64 0, .int .i64 0, .string ⟨#[]⟩] #[.int .i64 e.view, .int .i64 e.opn, .int .i64 e.under, .int .u64 (e.parent : Int), .int .i64 e.client, .int .i64 e.session, .int .i64 e.request, .int .i64 e.oper, .string e.body] rfl rfl (Row.new _ _ _) ?_ (hid rfl) (hid rfl) (hid (ecells_one e)); intro w2 hre HB2; replace hri := (hri.alloc (.cells #[.int .i64 0, .int .i64 0, .int .i64 0, .int .u64 0, .int .i64 0, .int .i64 0, .int .i64 0, .int .i64 0, .string ⟨#[]⟩] 28)).grown HB2 (by have := hri.lt; intro e; have := Option.some.inj e; omega); replace hbe := (hbe.alloc hbe.size (.cells #[.int .i64 0, .int .i64 0, .int .i64 0, .int .u64 0, .int .i64 0, .int .i64 0, .int .i64 0, .int .i64 0, .string ⟨#[]⟩] 28)).trans (below_grown HB2 hbe.size (by have := hbe.size; simp; omega)))
    | (go_at_call 52; refine (HS.out _).mono ?_; rintro x w3 ⟨rfl, hb3⟩; replace hri := hri.below hb3 hri.lt; replace hre := hre.below hb3 hre.lt; replace hbe := hbe.trans (hb3.mono hbe.size))
    | ((with_reducible show wpList _ _ _ ({ dst := none, op := .store _ (.tmp 10) (.tmp 23), type := _, pos := _, after := _, guard := _ } :: _) _ _); refine wpl_store_st rfl (.tmp 10) (.tmp 23) rfl (n := 5) HZS.out w3.heap.size #[.int .i64 0, .int .i64 0, .int .i64 0, .int .u64 0, .int .u64 0] #[.int .i64 s.opn, .int .i64 s.view, .int .i64 s.under, .int .u64 (s.parent : Int), .int .u64 (s.sum : Int)] rfl rfl (Row.new _ _ _) ?_ (hid rfl) (hid rfl) (hid (stcells_one s)); intro w4 hrs HB4; replace hri := (hri.alloc (.cells #[.int .i64 0, .int .i64 0, .int .i64 0, .int .u64 0, .int .u64 0] 42)).grown HB4 (by have := hri.lt; intro e; have := Option.some.inj e; omega); replace hre := (hre.alloc (.cells #[.int .i64 0, .int .i64 0, .int .i64 0, .int .u64 0, .int .u64 0] 42)).grown HB4 (by have := hre.lt; intro e; have := Option.some.inj e; omega); replace hbe := (hbe.alloc hbe.size (.cells #[.int .i64 0, .int .i64 0, .int .i64 0, .int .u64 0, .int .u64 0] 42)).trans (below_grown HB4 hbe.size (by have := hbe.size; simp; omega)))
    | ((with_reducible show wpList _ _ _ ({ dst := some 26, op := _, type := _, pos := _, after := _, guard := _ } :: _) _ _); refine wpList_load_row rfl 28 (.tmp 7) rfl w1.heap.size rfl 28 #[.int .i64 e.view, .int .i64 e.opn, .int .i64 e.under, .int .u64 (e.parent : Int), .int .i64 e.client, .int .i64 e.session, .int .i64 e.request, .int .i64 e.oper, .string e.body] (0, 0) _ (Row.arr (cs := #[.int .i64 e.view, .int .i64 e.opn, .int .i64 e.under, .int .u64 (e.parent : Int), .int .i64 e.client, .int .i64 e.session, .int .i64 e.request, .int .i64 e.oper, .string e.body]) hre) Tryd.underlying28 rfl HZE.out ?_)
    | (go_at_call 13; refine (HT.out _ (HFd.out.below hbe HFd.out.1)).mono ?_; rintro x w5 ⟨rfl, hb5⟩; replace hri := hri.below hb5 hri.lt; replace hre := hre.below hb5 hre.lt; replace hrs := hrs.below hb5 hrs.lt; replace hbe := hbe.trans (hb5.mono hbe.size))
    | ((with_reducible show wpList _ _ _ ({ dst := none, op := .store _ (.tmp 13) (.tmp 27), type := _, pos := _, after := _, guard := _ } :: _) _ _); refine wpl_store_st rfl (.tmp 13) (.tmp 27) rfl (n := 5) HZS.out w5.heap.size #[.int .i64 0, .int .i64 0, .int .i64 0, .int .u64 0, .int .u64 0] #[.int .i64 t.opn, .int .i64 t.view, .int .i64 t.under, .int .u64 (t.parent : Int), .int .u64 (t.sum : Int)] rfl rfl (Row.new _ _ _) ?_ (hid rfl) (hid rfl) (hid (stcells_one t)); intro w6 hro HB6; replace hri := (hri.alloc (.cells #[.int .i64 0, .int .i64 0, .int .i64 0, .int .u64 0, .int .u64 0] 42)).grown HB6 (by have := hri.lt; intro e; have := Option.some.inj e; omega); replace hre := (hre.alloc (.cells #[.int .i64 0, .int .i64 0, .int .i64 0, .int .u64 0, .int .u64 0] 42)).grown HB6 (by have := hre.lt; intro e; have := Option.some.inj e; omega); replace hrs := (hrs.alloc (.cells #[.int .i64 0, .int .i64 0, .int .i64 0, .int .u64 0, .int .u64 0] 42)).grown HB6 (by have := hrs.lt; intro e; have := Option.some.inj e; omega); replace hbe := (hbe.alloc hbe.size (.cells #[.int .i64 0, .int .i64 0, .int .i64 0, .int .u64 0, .int .u64 0] 42)).trans (below_grown HB6 hbe.size (by have := hbe.size; simp; omega)); have he1 := hre.at_ 1 _ rfl; have hs0 := hrs.at_ 0 _ rfl)
    | ((with_reducible show wpList _ _ _ ({ dst := some 37, op := _, type := _, pos := _, after := _, guard := _ } :: _) _ _); refine wpl_load_want rfl 42 (.tmp 13) rfl w5.heap.size rfl 42 #[.int .i64 t.opn, .int .i64 t.view, .int .i64 t.under, .int .u64 (t.parent : Int), .int .u64 (t.sum : Int)] (0, 0) _ (Row.arr (cs := #[.int .i64 t.opn, .int .i64 t.view, .int .i64 t.under, .int .u64 (t.parent : Int), .int .u64 (t.sum : Int)]) hro) Tryd.underlying42 rfl HZS.out ?_)
    | ((with_reducible show wpList _ _ _ ({ dst := some 38, op := _, type := _, pos := _, after := _, guard := _ } :: _) _ _); refine wpl_load_want rfl 42 (.tmp 10) rfl w3.heap.size rfl 42 #[.int .i64 s.opn, .int .i64 s.view, .int .i64 s.under, .int .u64 (s.parent : Int), .int .u64 (s.sum : Int)] (0, 0) _ (Row.arr (cs := #[.int .i64 s.opn, .int .i64 s.view, .int .i64 s.under, .int .u64 (s.parent : Int), .int .u64 (s.sum : Int)]) hrs) Tryd.underlying42 rfl HZS.out ?_)
    | ((with_reducible show wpList _ _ _ ({ dst := some 39, op := _, type := _, pos := _, after := _, guard := _ } :: _) _ _); refine wpl_eqs rfl t s false (.tmp 37) (.tmp 38) _ rfl rfl rfl heq ?_)
    | ((with_reducible show wpList _ _ _ ({ dst := some 52, op := _, type := _, pos := _, after := _, guard := _ } :: _) _ _); refine wpl_load_want rfl 42 (.tmp 10) rfl w3.heap.size rfl 42 #[.int .i64 s.opn, .int .i64 s.view, .int .i64 s.under, .int .u64 (s.parent : Int), .int .u64 (s.sum : Int)] (0, 0) _ (Row.arr (cs := #[.int .i64 s.opn, .int .i64 s.view, .int .i64 s.under, .int .u64 (s.parent : Int), .int .u64 (s.sum : Int)]) hrs) Tryd.underlying42 rfl HZS.out ?_)
    | ((with_reducible show wpList _ _ _ ({ dst := none, op := .store _ (.tmp 6) (.tmp 53), type := _, pos := _, after := _, guard := _ } :: _) _ _); refine wpl_store_st rfl (.tmp 6) (.tmp 53) rfl (n := 15) HZI.out w.heap.size #[.int .i64 0, .int .i64 0, .int .i64 0, .int .i64 0, .int .u64 0, .int .u64 0, .int .i64 0, .int .i64 0, .int .i64 0, .int .u64 0, .int .i64 0, .int .i64 0, .int .i64 0, .int .i64 0, .string ⟨#[]⟩] #[.int .i64 2, .int .i64 s.opn, .int .i64 s.view, .int .i64 s.under, .int .u64 (s.parent : Int), .int .u64 (s.sum : Int), .int .i64 0, .int .i64 0, .int .i64 0, .int .u64 0, .int .i64 0, .int .i64 0, .int .i64 0, .int .i64 0, .string ⟨#[]⟩] rfl rfl hri ?_ (hid rfl) (hid rfl) (hid (by simp [Value.oneCell'])); intro w7 hr7 HB7))
  exact bodyPost_ret (v := .agg #[.int .i64 2, .int .i64 s.opn, .int .i64 s.view, .int .i64 s.under, .int .u64 (s.parent : Int), .int .u64 (s.sum : Int), .int .i64 0, .int .i64 0, .int .i64 0, .int .u64 0, .int .i64 0, .int .i64 0, .int .i64 0, .int .i64 0, .string ⟨#[]⟩]) (results_cell_row rfl _ _ w.heap.size 44 #[.int .i64 2, .int .i64 s.opn, .int .i64 s.view, .int .i64 s.under, .int .u64 (s.parent : Int), .int .u64 (s.sum : Int), .int .i64 0, .int .i64 0, .int .i64 0, .int .u64 0, .int .i64 0, .int .i64 0, .int .i64 0, .int .i64 0, .string ⟨#[]⟩] (0, 0) _ rfl (Row.arr (cs := #[.int .i64 2, .int .i64 s.opn, .int .i64 s.view, .int .i64 s.under, .int .u64 (s.parent : Int), .int .u64 (s.sum : Int), .int .i64 0, .int .i64 0, .int .i64 0, .int .u64 0, .int .i64 0, .int .i64 0, .int .i64 0, .int .i64 0, .string ⟨#[]⟩]) hr7) Tryd.underlying44 rfl HZI.out) rfl ⟨rfl, hbe.trans (below_grown HB7 (Nat.le_refl _) hbe.size)⟩
set_option maxHeartbeats 1000000 in
theorem sjudge_3 (p h : ByteArray) (n : Int) (e : En) (s t : St) (bk br : Bool) (w : World) (hf : Fd w) (hon : (s.opn == n) = false)
    (HE : Hid (∀ W : World, Fd W → Calls Tryd.prog 51 #[.string p] W (LQ W #[.int .i64 e.view, .int .i64 e.opn, .int .i64 e.under, .int .u64 (e.parent : Int), .int .i64 e.client, .int .i64 e.session, .int .i64 e.request, .int .i64 e.oper, .string e.body] bk br)))
    (HS : Hid (∀ W : World, Calls Tryd.prog 52 #[.string h] W (LQ W #[.int .i64 s.opn, .int .i64 s.view, .int .i64 s.under, .int .u64 (s.parent : Int), .int .u64 (s.sum : Int)] true true)))
    (HT : Hid (∀ W : World, Fd W → Calls Tryd.prog 13 #[.agg #[.int .i64 e.view, .int .i64 e.opn, .int .i64 e.under, .int .u64 (e.parent : Int), .int .i64 e.client, .int .i64 e.session, .int .i64 e.request, .int .i64 e.oper, .string e.body]] W (VE W (.agg #[.int .i64 t.opn, .int .i64 t.view, .int .i64 t.under, .int .u64 (t.parent : Int), .int .u64 (t.sum : Int)])))) :
    Calls Tryd.prog 27 #[.string p, .string h, .int .i64 n] w (VE w (⟨0, st0, en0⟩ : It).val) := by
  have HZE := hid esize
  have HZS := hid stsize
  have HZI := hid isize
  have HFd := hid hf
  clear hf
  go_enter Tryd.func27, Tryd.ntmps27
  go_wp2_with (first
    | (go_at_call 51; refine (HE.out _ (HFd.out.below ((Below.refl w.heap.size w).alloc (Nat.le_refl _) _) HFd.out.1)).mono ?_; rintro x w1 ⟨rfl, hb1⟩; have hri := (Row.new w 44 #[.int .i64 0, .int .i64 0, .int .i64 0, .int .i64 0, .int .u64 0, .int .u64 0, .int .i64 0, .int .i64 0, .int .i64 0, .int .u64 0, .int .i64 0, .int .i64 0, .int .i64 0, .int .i64 0, .string ⟨#[]⟩]).below hb1 (by simp); have hbe := ((Below.refl w.heap.size w).alloc (Nat.le_refl _) (.cells #[.int .i64 0, .int .i64 0, .int .i64 0, .int .i64 0, .int .u64 0, .int .u64 0, .int .i64 0, .int .i64 0, .int .i64 0, .int .u64 0, .int .i64 0, .int .i64 0, .int .i64 0, .int .i64 0, .string ⟨#[]⟩] 44)).trans (hb1.mono (by simp)))
    | ((with_reducible show wpList _ _ _ ({ dst := none, op := .store _ (.tmp 7) (.tmp 17), type := _, pos := _, after := _, guard := _ } :: _) _ _); refine wpl_store_st rfl (.tmp 7) (.tmp 17) rfl (n := 9) HZE.out w1.heap.size #[.int .i64 0, .int .i64 0, .int .i64 0, .int .u64 0, .int .i64 0, .int .i64 0, .int .i64 0, .int .i64 0, .string ⟨#[]⟩] #[.int .i64 e.view, .int .i64 e.opn, .int .i64 e.under, .int .u64 (e.parent : Int), .int .i64 e.client, .int .i64 e.session, .int .i64 e.request, .int .i64 e.oper, .string e.body] rfl rfl (Row.new _ _ _) ?_ (hid rfl) (hid rfl) (hid (ecells_one e)); intro w2 hre HB2; replace hri := (hri.alloc (.cells #[.int .i64 0, .int .i64 0, .int .i64 0, .int .u64 0, .int .i64 0, .int .i64 0, .int .i64 0, .int .i64 0, .string ⟨#[]⟩] 28)).grown HB2 (by have := hri.lt; intro e; have := Option.some.inj e; omega); replace hbe := (hbe.alloc hbe.size (.cells #[.int .i64 0, .int .i64 0, .int .i64 0, .int .u64 0, .int .i64 0, .int .i64 0, .int .i64 0, .int .i64 0, .string ⟨#[]⟩] 28)).trans (below_grown HB2 hbe.size (by have := hbe.size; simp; omega)))
    | (go_at_call 52; refine (HS.out _).mono ?_; rintro x w3 ⟨rfl, hb3⟩; replace hri := hri.below hb3 hri.lt; replace hre := hre.below hb3 hre.lt; replace hbe := hbe.trans (hb3.mono hbe.size))
    | ((with_reducible show wpList _ _ _ ({ dst := none, op := .store _ (.tmp 10) (.tmp 23), type := _, pos := _, after := _, guard := _ } :: _) _ _); refine wpl_store_st rfl (.tmp 10) (.tmp 23) rfl (n := 5) HZS.out w3.heap.size #[.int .i64 0, .int .i64 0, .int .i64 0, .int .u64 0, .int .u64 0] #[.int .i64 s.opn, .int .i64 s.view, .int .i64 s.under, .int .u64 (s.parent : Int), .int .u64 (s.sum : Int)] rfl rfl (Row.new _ _ _) ?_ (hid rfl) (hid rfl) (hid (stcells_one s)); intro w4 hrs HB4; replace hri := (hri.alloc (.cells #[.int .i64 0, .int .i64 0, .int .i64 0, .int .u64 0, .int .u64 0] 42)).grown HB4 (by have := hri.lt; intro e; have := Option.some.inj e; omega); replace hre := (hre.alloc (.cells #[.int .i64 0, .int .i64 0, .int .i64 0, .int .u64 0, .int .u64 0] 42)).grown HB4 (by have := hre.lt; intro e; have := Option.some.inj e; omega); replace hbe := (hbe.alloc hbe.size (.cells #[.int .i64 0, .int .i64 0, .int .i64 0, .int .u64 0, .int .u64 0] 42)).trans (below_grown HB4 hbe.size (by have := hbe.size; simp; omega)))
    | ((with_reducible show wpList _ _ _ ({ dst := some 26, op := _, type := _, pos := _, after := _, guard := _ } :: _) _ _); refine wpList_load_row rfl 28 (.tmp 7) rfl w1.heap.size rfl 28 #[.int .i64 e.view, .int .i64 e.opn, .int .i64 e.under, .int .u64 (e.parent : Int), .int .i64 e.client, .int .i64 e.session, .int .i64 e.request, .int .i64 e.oper, .string e.body] (0, 0) _ (Row.arr (cs := #[.int .i64 e.view, .int .i64 e.opn, .int .i64 e.under, .int .u64 (e.parent : Int), .int .i64 e.client, .int .i64 e.session, .int .i64 e.request, .int .i64 e.oper, .string e.body]) hre) Tryd.underlying28 rfl HZE.out ?_)
    | (go_at_call 13; refine (HT.out _ (HFd.out.below hbe HFd.out.1)).mono ?_; rintro x w5 ⟨rfl, hb5⟩; replace hri := hri.below hb5 hri.lt; replace hre := hre.below hb5 hre.lt; replace hrs := hrs.below hb5 hrs.lt; replace hbe := hbe.trans (hb5.mono hbe.size))
    | ((with_reducible show wpList _ _ _ ({ dst := none, op := .store _ (.tmp 13) (.tmp 27), type := _, pos := _, after := _, guard := _ } :: _) _ _); refine wpl_store_st rfl (.tmp 13) (.tmp 27) rfl (n := 5) HZS.out w5.heap.size #[.int .i64 0, .int .i64 0, .int .i64 0, .int .u64 0, .int .u64 0] #[.int .i64 t.opn, .int .i64 t.view, .int .i64 t.under, .int .u64 (t.parent : Int), .int .u64 (t.sum : Int)] rfl rfl (Row.new _ _ _) ?_ (hid rfl) (hid rfl) (hid (stcells_one t)); intro w6 hro HB6; replace hri := (hri.alloc (.cells #[.int .i64 0, .int .i64 0, .int .i64 0, .int .u64 0, .int .u64 0] 42)).grown HB6 (by have := hri.lt; intro e; have := Option.some.inj e; omega); replace hre := (hre.alloc (.cells #[.int .i64 0, .int .i64 0, .int .i64 0, .int .u64 0, .int .u64 0] 42)).grown HB6 (by have := hre.lt; intro e; have := Option.some.inj e; omega); replace hrs := (hrs.alloc (.cells #[.int .i64 0, .int .i64 0, .int .i64 0, .int .u64 0, .int .u64 0] 42)).grown HB6 (by have := hrs.lt; intro e; have := Option.some.inj e; omega); replace hbe := (hbe.alloc hbe.size (.cells #[.int .i64 0, .int .i64 0, .int .i64 0, .int .u64 0, .int .u64 0] 42)).trans (below_grown HB6 hbe.size (by have := hbe.size; simp; omega)); have he1 := hre.at_ 1 _ rfl; have hs0 := hrs.at_ 0 _ rfl)
    | ((with_reducible show wpList _ _ _ ({ dst := none, op := .store _ (.tmp 6) (.tmp 56), type := _, pos := _, after := _, guard := _ } :: _) _ _); refine wpl_store_st rfl (.tmp 6) (.tmp 56) rfl (n := 15) HZI.out w.heap.size #[.int .i64 0, .int .i64 0, .int .i64 0, .int .i64 0, .int .u64 0, .int .u64 0, .int .i64 0, .int .i64 0, .int .i64 0, .int .u64 0, .int .i64 0, .int .i64 0, .int .i64 0, .int .i64 0, .string ⟨#[]⟩] #[.int .i64 0, .int .i64 0, .int .i64 0, .int .i64 0, .int .u64 0, .int .u64 0, .int .i64 0, .int .i64 0, .int .i64 0, .int .u64 0, .int .i64 0, .int .i64 0, .int .i64 0, .int .i64 0, .string ⟨#[]⟩] rfl rfl hri ?_ (hid rfl) (hid rfl) (hid (by simp [Value.oneCell'])); intro w7 hr7 HB7))
  exact bodyPost_ret (v := .agg #[.int .i64 0, .int .i64 0, .int .i64 0, .int .i64 0, .int .u64 0, .int .u64 0, .int .i64 0, .int .i64 0, .int .i64 0, .int .u64 0, .int .i64 0, .int .i64 0, .int .i64 0, .int .i64 0, .string ⟨#[]⟩]) (results_cell_row rfl _ _ w.heap.size 44 #[.int .i64 0, .int .i64 0, .int .i64 0, .int .i64 0, .int .u64 0, .int .u64 0, .int .i64 0, .int .i64 0, .int .i64 0, .int .u64 0, .int .i64 0, .int .i64 0, .int .i64 0, .int .i64 0, .string ⟨#[]⟩] (0, 0) _ rfl (Row.arr (cs := #[.int .i64 0, .int .i64 0, .int .i64 0, .int .i64 0, .int .u64 0, .int .u64 0, .int .i64 0, .int .i64 0, .int .i64 0, .int .u64 0, .int .i64 0, .int .i64 0, .int .i64 0, .int .i64 0, .string ⟨#[]⟩]) hr7) Tryd.underlying44 rfl HZI.out) rfl ⟨rfl, hbe.trans (below_grown HB7 (Nat.le_refl _) hbe.size)⟩
set_option maxHeartbeats 1000000 in
theorem sjudge_4 (p h : ByteArray) (n : Int) (e : En) (s t : St) (bk br : Bool) (w : World) (hf : Fd w) 
    (HE : Hid (∀ W : World, Fd W → Calls Tryd.prog 51 #[.string p] W (LQ W #[.int .i64 e.view, .int .i64 e.opn, .int .i64 e.under, .int .u64 (e.parent : Int), .int .i64 e.client, .int .i64 e.session, .int .i64 e.request, .int .i64 e.oper, .string e.body] bk br)))
    (HS : Hid (∀ W : World, Calls Tryd.prog 52 #[.string h] W (LQ W #[.int .i64 s.opn, .int .i64 s.view, .int .i64 s.under, .int .u64 (s.parent : Int), .int .u64 (s.sum : Int)] false true)))
    (HT : Hid (∀ W : World, Fd W → Calls Tryd.prog 13 #[.agg #[.int .i64 e.view, .int .i64 e.opn, .int .i64 e.under, .int .u64 (e.parent : Int), .int .i64 e.client, .int .i64 e.session, .int .i64 e.request, .int .i64 e.oper, .string e.body]] W (VE W (.agg #[.int .i64 t.opn, .int .i64 t.view, .int .i64 t.under, .int .u64 (t.parent : Int), .int .u64 (t.sum : Int)])))) :
    Calls Tryd.prog 27 #[.string p, .string h, .int .i64 n] w (VE w (⟨0, st0, en0⟩ : It).val) := by
  have HZE := hid esize
  have HZS := hid stsize
  have HZI := hid isize
  have HFd := hid hf
  clear hf
  go_enter Tryd.func27, Tryd.ntmps27
  go_wp2_with (first
    | (go_at_call 51; refine (HE.out _ (HFd.out.below ((Below.refl w.heap.size w).alloc (Nat.le_refl _) _) HFd.out.1)).mono ?_; rintro x w1 ⟨rfl, hb1⟩; have hri := (Row.new w 44 #[.int .i64 0, .int .i64 0, .int .i64 0, .int .i64 0, .int .u64 0, .int .u64 0, .int .i64 0, .int .i64 0, .int .i64 0, .int .u64 0, .int .i64 0, .int .i64 0, .int .i64 0, .int .i64 0, .string ⟨#[]⟩]).below hb1 (by simp); have hbe := ((Below.refl w.heap.size w).alloc (Nat.le_refl _) (.cells #[.int .i64 0, .int .i64 0, .int .i64 0, .int .i64 0, .int .u64 0, .int .u64 0, .int .i64 0, .int .i64 0, .int .i64 0, .int .u64 0, .int .i64 0, .int .i64 0, .int .i64 0, .int .i64 0, .string ⟨#[]⟩] 44)).trans (hb1.mono (by simp)))
    | ((with_reducible show wpList _ _ _ ({ dst := none, op := .store _ (.tmp 7) (.tmp 17), type := _, pos := _, after := _, guard := _ } :: _) _ _); refine wpl_store_st rfl (.tmp 7) (.tmp 17) rfl (n := 9) HZE.out w1.heap.size #[.int .i64 0, .int .i64 0, .int .i64 0, .int .u64 0, .int .i64 0, .int .i64 0, .int .i64 0, .int .i64 0, .string ⟨#[]⟩] #[.int .i64 e.view, .int .i64 e.opn, .int .i64 e.under, .int .u64 (e.parent : Int), .int .i64 e.client, .int .i64 e.session, .int .i64 e.request, .int .i64 e.oper, .string e.body] rfl rfl (Row.new _ _ _) ?_ (hid rfl) (hid rfl) (hid (ecells_one e)); intro w2 hre HB2; replace hri := (hri.alloc (.cells #[.int .i64 0, .int .i64 0, .int .i64 0, .int .u64 0, .int .i64 0, .int .i64 0, .int .i64 0, .int .i64 0, .string ⟨#[]⟩] 28)).grown HB2 (by have := hri.lt; intro e; have := Option.some.inj e; omega); replace hbe := (hbe.alloc hbe.size (.cells #[.int .i64 0, .int .i64 0, .int .i64 0, .int .u64 0, .int .i64 0, .int .i64 0, .int .i64 0, .int .i64 0, .string ⟨#[]⟩] 28)).trans (below_grown HB2 hbe.size (by have := hbe.size; simp; omega)))
    | (go_at_call 52; refine (HS.out _).mono ?_; rintro x w3 ⟨rfl, hb3⟩; replace hri := hri.below hb3 hri.lt; replace hre := hre.below hb3 hre.lt; replace hbe := hbe.trans (hb3.mono hbe.size))
    | ((with_reducible show wpList _ _ _ ({ dst := none, op := .store _ (.tmp 10) (.tmp 23), type := _, pos := _, after := _, guard := _ } :: _) _ _); refine wpl_store_st rfl (.tmp 10) (.tmp 23) rfl (n := 5) HZS.out w3.heap.size #[.int .i64 0, .int .i64 0, .int .i64 0, .int .u64 0, .int .u64 0] #[.int .i64 s.opn, .int .i64 s.view, .int .i64 s.under, .int .u64 (s.parent : Int), .int .u64 (s.sum : Int)] rfl rfl (Row.new _ _ _) ?_ (hid rfl) (hid rfl) (hid (stcells_one s)); intro w4 hrs HB4; replace hri := (hri.alloc (.cells #[.int .i64 0, .int .i64 0, .int .i64 0, .int .u64 0, .int .u64 0] 42)).grown HB4 (by have := hri.lt; intro e; have := Option.some.inj e; omega); replace hre := (hre.alloc (.cells #[.int .i64 0, .int .i64 0, .int .i64 0, .int .u64 0, .int .u64 0] 42)).grown HB4 (by have := hre.lt; intro e; have := Option.some.inj e; omega); replace hbe := (hbe.alloc hbe.size (.cells #[.int .i64 0, .int .i64 0, .int .i64 0, .int .u64 0, .int .u64 0] 42)).trans (below_grown HB4 hbe.size (by have := hbe.size; simp; omega)))
    | ((with_reducible show wpList _ _ _ ({ dst := some 26, op := _, type := _, pos := _, after := _, guard := _ } :: _) _ _); refine wpList_load_row rfl 28 (.tmp 7) rfl w1.heap.size rfl 28 #[.int .i64 e.view, .int .i64 e.opn, .int .i64 e.under, .int .u64 (e.parent : Int), .int .i64 e.client, .int .i64 e.session, .int .i64 e.request, .int .i64 e.oper, .string e.body] (0, 0) _ (Row.arr (cs := #[.int .i64 e.view, .int .i64 e.opn, .int .i64 e.under, .int .u64 (e.parent : Int), .int .i64 e.client, .int .i64 e.session, .int .i64 e.request, .int .i64 e.oper, .string e.body]) hre) Tryd.underlying28 rfl HZE.out ?_)
    | (go_at_call 13; refine (HT.out _ (HFd.out.below hbe HFd.out.1)).mono ?_; rintro x w5 ⟨rfl, hb5⟩; replace hri := hri.below hb5 hri.lt; replace hre := hre.below hb5 hre.lt; replace hrs := hrs.below hb5 hrs.lt; replace hbe := hbe.trans (hb5.mono hbe.size))
    | ((with_reducible show wpList _ _ _ ({ dst := none, op := .store _ (.tmp 13) (.tmp 27), type := _, pos := _, after := _, guard := _ } :: _) _ _); refine wpl_store_st rfl (.tmp 13) (.tmp 27) rfl (n := 5) HZS.out w5.heap.size #[.int .i64 0, .int .i64 0, .int .i64 0, .int .u64 0, .int .u64 0] #[.int .i64 t.opn, .int .i64 t.view, .int .i64 t.under, .int .u64 (t.parent : Int), .int .u64 (t.sum : Int)] rfl rfl (Row.new _ _ _) ?_ (hid rfl) (hid rfl) (hid (stcells_one t)); intro w6 hro HB6; replace hri := (hri.alloc (.cells #[.int .i64 0, .int .i64 0, .int .i64 0, .int .u64 0, .int .u64 0] 42)).grown HB6 (by have := hri.lt; intro e; have := Option.some.inj e; omega); replace hre := (hre.alloc (.cells #[.int .i64 0, .int .i64 0, .int .i64 0, .int .u64 0, .int .u64 0] 42)).grown HB6 (by have := hre.lt; intro e; have := Option.some.inj e; omega); replace hrs := (hrs.alloc (.cells #[.int .i64 0, .int .i64 0, .int .i64 0, .int .u64 0, .int .u64 0] 42)).grown HB6 (by have := hrs.lt; intro e; have := Option.some.inj e; omega); replace hbe := (hbe.alloc hbe.size (.cells #[.int .i64 0, .int .i64 0, .int .i64 0, .int .u64 0, .int .u64 0] 42)).trans (below_grown HB6 hbe.size (by have := hbe.size; simp; omega)); have he1 := hre.at_ 1 _ rfl; have hs0 := hrs.at_ 0 _ rfl)
    | ((with_reducible show wpList _ _ _ ({ dst := none, op := .store _ (.tmp 6) (.tmp 56), type := _, pos := _, after := _, guard := _ } :: _) _ _); refine wpl_store_st rfl (.tmp 6) (.tmp 56) rfl (n := 15) HZI.out w.heap.size #[.int .i64 0, .int .i64 0, .int .i64 0, .int .i64 0, .int .u64 0, .int .u64 0, .int .i64 0, .int .i64 0, .int .i64 0, .int .u64 0, .int .i64 0, .int .i64 0, .int .i64 0, .int .i64 0, .string ⟨#[]⟩] #[.int .i64 0, .int .i64 0, .int .i64 0, .int .i64 0, .int .u64 0, .int .u64 0, .int .i64 0, .int .i64 0, .int .i64 0, .int .u64 0, .int .i64 0, .int .i64 0, .int .i64 0, .int .i64 0, .string ⟨#[]⟩] rfl rfl hri ?_ (hid rfl) (hid rfl) (hid (by simp [Value.oneCell'])); intro w7 hr7 HB7))
  exact bodyPost_ret (v := .agg #[.int .i64 0, .int .i64 0, .int .i64 0, .int .i64 0, .int .u64 0, .int .u64 0, .int .i64 0, .int .i64 0, .int .i64 0, .int .u64 0, .int .i64 0, .int .i64 0, .int .i64 0, .int .i64 0, .string ⟨#[]⟩]) (results_cell_row rfl _ _ w.heap.size 44 #[.int .i64 0, .int .i64 0, .int .i64 0, .int .i64 0, .int .u64 0, .int .u64 0, .int .i64 0, .int .i64 0, .int .i64 0, .int .u64 0, .int .i64 0, .int .i64 0, .int .i64 0, .int .i64 0, .string ⟨#[]⟩] (0, 0) _ rfl (Row.arr (cs := #[.int .i64 0, .int .i64 0, .int .i64 0, .int .i64 0, .int .u64 0, .int .u64 0, .int .i64 0, .int .i64 0, .int .i64 0, .int .u64 0, .int .i64 0, .int .i64 0, .int .i64 0, .int .i64 0, .string ⟨#[]⟩]) hr7) Tryd.underlying44 rfl HZI.out) rfl ⟨rfl, hbe.trans (below_grown HB7 (Nat.le_refl _) hbe.size)⟩
set_option maxHeartbeats 1000000 in
theorem sjudge_5 (p h : ByteArray) (n : Int) (e : En) (s t : St) (w : World) (hf : Fd w) (hen : (e.opn == n) = true)
    (HE : Hid (∀ W : World, Fd W → Calls Tryd.prog 51 #[.string p] W (LQ W #[.int .i64 e.view, .int .i64 e.opn, .int .i64 e.under, .int .u64 (e.parent : Int), .int .i64 e.client, .int .i64 e.session, .int .i64 e.request, .int .i64 e.oper, .string e.body] true true)))
    (HS : Hid (∀ W : World, Calls Tryd.prog 52 #[.string h] W (LQ W #[.int .i64 s.opn, .int .i64 s.view, .int .i64 s.under, .int .u64 (s.parent : Int), .int .u64 (s.sum : Int)] false false)))
    (HT : Hid (∀ W : World, Fd W → Calls Tryd.prog 13 #[.agg #[.int .i64 e.view, .int .i64 e.opn, .int .i64 e.under, .int .u64 (e.parent : Int), .int .i64 e.client, .int .i64 e.session, .int .i64 e.request, .int .i64 e.oper, .string e.body]] W (VE W (.agg #[.int .i64 t.opn, .int .i64 t.view, .int .i64 t.under, .int .u64 (t.parent : Int), .int .u64 (t.sum : Int)])))) :
    Calls Tryd.prog 27 #[.string p, .string h, .int .i64 n] w (VE w (⟨1, t, e⟩ : It).val) := by
  have HZE := hid esize
  have HZS := hid stsize
  have HZI := hid isize
  have HFd := hid hf
  clear hf
  go_enter Tryd.func27, Tryd.ntmps27
  go_wp2_with (first
    | (go_at_call 51; refine (HE.out _ (HFd.out.below ((Below.refl w.heap.size w).alloc (Nat.le_refl _) _) HFd.out.1)).mono ?_; rintro x w1 ⟨rfl, hb1⟩; have hri := (Row.new w 44 #[.int .i64 0, .int .i64 0, .int .i64 0, .int .i64 0, .int .u64 0, .int .u64 0, .int .i64 0, .int .i64 0, .int .i64 0, .int .u64 0, .int .i64 0, .int .i64 0, .int .i64 0, .int .i64 0, .string ⟨#[]⟩]).below hb1 (by simp); have hbe := ((Below.refl w.heap.size w).alloc (Nat.le_refl _) (.cells #[.int .i64 0, .int .i64 0, .int .i64 0, .int .i64 0, .int .u64 0, .int .u64 0, .int .i64 0, .int .i64 0, .int .i64 0, .int .u64 0, .int .i64 0, .int .i64 0, .int .i64 0, .int .i64 0, .string ⟨#[]⟩] 44)).trans (hb1.mono (by simp)))
    | ((with_reducible show wpList _ _ _ ({ dst := none, op := .store _ (.tmp 7) (.tmp 17), type := _, pos := _, after := _, guard := _ } :: _) _ _); refine wpl_store_st rfl (.tmp 7) (.tmp 17) rfl (n := 9) HZE.out w1.heap.size #[.int .i64 0, .int .i64 0, .int .i64 0, .int .u64 0, .int .i64 0, .int .i64 0, .int .i64 0, .int .i64 0, .string ⟨#[]⟩] #[.int .i64 e.view, .int .i64 e.opn, .int .i64 e.under, .int .u64 (e.parent : Int), .int .i64 e.client, .int .i64 e.session, .int .i64 e.request, .int .i64 e.oper, .string e.body] rfl rfl (Row.new _ _ _) ?_ (hid rfl) (hid rfl) (hid (ecells_one e)); intro w2 hre HB2; replace hri := (hri.alloc (.cells #[.int .i64 0, .int .i64 0, .int .i64 0, .int .u64 0, .int .i64 0, .int .i64 0, .int .i64 0, .int .i64 0, .string ⟨#[]⟩] 28)).grown HB2 (by have := hri.lt; intro e; have := Option.some.inj e; omega); replace hbe := (hbe.alloc hbe.size (.cells #[.int .i64 0, .int .i64 0, .int .i64 0, .int .u64 0, .int .i64 0, .int .i64 0, .int .i64 0, .int .i64 0, .string ⟨#[]⟩] 28)).trans (below_grown HB2 hbe.size (by have := hbe.size; simp; omega)))
    | (go_at_call 52; refine (HS.out _).mono ?_; rintro x w3 ⟨rfl, hb3⟩; replace hri := hri.below hb3 hri.lt; replace hre := hre.below hb3 hre.lt; replace hbe := hbe.trans (hb3.mono hbe.size))
    | ((with_reducible show wpList _ _ _ ({ dst := none, op := .store _ (.tmp 10) (.tmp 23), type := _, pos := _, after := _, guard := _ } :: _) _ _); refine wpl_store_st rfl (.tmp 10) (.tmp 23) rfl (n := 5) HZS.out w3.heap.size #[.int .i64 0, .int .i64 0, .int .i64 0, .int .u64 0, .int .u64 0] #[.int .i64 s.opn, .int .i64 s.view, .int .i64 s.under, .int .u64 (s.parent : Int), .int .u64 (s.sum : Int)] rfl rfl (Row.new _ _ _) ?_ (hid rfl) (hid rfl) (hid (stcells_one s)); intro w4 hrs HB4; replace hri := (hri.alloc (.cells #[.int .i64 0, .int .i64 0, .int .i64 0, .int .u64 0, .int .u64 0] 42)).grown HB4 (by have := hri.lt; intro e; have := Option.some.inj e; omega); replace hre := (hre.alloc (.cells #[.int .i64 0, .int .i64 0, .int .i64 0, .int .u64 0, .int .u64 0] 42)).grown HB4 (by have := hre.lt; intro e; have := Option.some.inj e; omega); replace hbe := (hbe.alloc hbe.size (.cells #[.int .i64 0, .int .i64 0, .int .i64 0, .int .u64 0, .int .u64 0] 42)).trans (below_grown HB4 hbe.size (by have := hbe.size; simp; omega)))
    | ((with_reducible show wpList _ _ _ ({ dst := some 26, op := _, type := _, pos := _, after := _, guard := _ } :: _) _ _); refine wpList_load_row rfl 28 (.tmp 7) rfl w1.heap.size rfl 28 #[.int .i64 e.view, .int .i64 e.opn, .int .i64 e.under, .int .u64 (e.parent : Int), .int .i64 e.client, .int .i64 e.session, .int .i64 e.request, .int .i64 e.oper, .string e.body] (0, 0) _ (Row.arr (cs := #[.int .i64 e.view, .int .i64 e.opn, .int .i64 e.under, .int .u64 (e.parent : Int), .int .i64 e.client, .int .i64 e.session, .int .i64 e.request, .int .i64 e.oper, .string e.body]) hre) Tryd.underlying28 rfl HZE.out ?_)
    | (go_at_call 13; refine (HT.out _ (HFd.out.below hbe HFd.out.1)).mono ?_; rintro x w5 ⟨rfl, hb5⟩; replace hri := hri.below hb5 hri.lt; replace hre := hre.below hb5 hre.lt; replace hrs := hrs.below hb5 hrs.lt; replace hbe := hbe.trans (hb5.mono hbe.size))
    | ((with_reducible show wpList _ _ _ ({ dst := none, op := .store _ (.tmp 13) (.tmp 27), type := _, pos := _, after := _, guard := _ } :: _) _ _); refine wpl_store_st rfl (.tmp 13) (.tmp 27) rfl (n := 5) HZS.out w5.heap.size #[.int .i64 0, .int .i64 0, .int .i64 0, .int .u64 0, .int .u64 0] #[.int .i64 t.opn, .int .i64 t.view, .int .i64 t.under, .int .u64 (t.parent : Int), .int .u64 (t.sum : Int)] rfl rfl (Row.new _ _ _) ?_ (hid rfl) (hid rfl) (hid (stcells_one t)); intro w6 hro HB6; replace hri := (hri.alloc (.cells #[.int .i64 0, .int .i64 0, .int .i64 0, .int .u64 0, .int .u64 0] 42)).grown HB6 (by have := hri.lt; intro e; have := Option.some.inj e; omega); replace hre := (hre.alloc (.cells #[.int .i64 0, .int .i64 0, .int .i64 0, .int .u64 0, .int .u64 0] 42)).grown HB6 (by have := hre.lt; intro e; have := Option.some.inj e; omega); replace hrs := (hrs.alloc (.cells #[.int .i64 0, .int .i64 0, .int .i64 0, .int .u64 0, .int .u64 0] 42)).grown HB6 (by have := hrs.lt; intro e; have := Option.some.inj e; omega); replace hbe := (hbe.alloc hbe.size (.cells #[.int .i64 0, .int .i64 0, .int .i64 0, .int .u64 0, .int .u64 0] 42)).trans (below_grown HB6 hbe.size (by have := hbe.size; simp; omega)); have he1 := hre.at_ 1 _ rfl; have hs0 := hrs.at_ 0 _ rfl)
    | ((with_reducible show wpList _ _ _ ({ dst := some 65, op := _, type := _, pos := _, after := _, guard := _ } :: _) _ _); refine wpl_load_want rfl 42 (.tmp 13) rfl w5.heap.size rfl 42 #[.int .i64 t.opn, .int .i64 t.view, .int .i64 t.under, .int .u64 (t.parent : Int), .int .u64 (t.sum : Int)] (0, 0) _ (Row.arr (cs := #[.int .i64 t.opn, .int .i64 t.view, .int .i64 t.under, .int .u64 (t.parent : Int), .int .u64 (t.sum : Int)]) hro) Tryd.underlying42 rfl HZS.out ?_)
    | ((with_reducible show wpList _ _ _ ({ dst := some 66, op := _, type := _, pos := _, after := _, guard := _ } :: _) _ _); refine wpl_load_want rfl 28 (.tmp 7) rfl w1.heap.size rfl 28 #[.int .i64 e.view, .int .i64 e.opn, .int .i64 e.under, .int .u64 (e.parent : Int), .int .i64 e.client, .int .i64 e.session, .int .i64 e.request, .int .i64 e.oper, .string e.body] (0, 0) _ (Row.arr (cs := #[.int .i64 e.view, .int .i64 e.opn, .int .i64 e.under, .int .u64 (e.parent : Int), .int .i64 e.client, .int .i64 e.session, .int .i64 e.request, .int .i64 e.oper, .string e.body]) hre) Tryd.underlying28 rfl HZE.out ?_)
    | ((with_reducible show wpList _ _ _ ({ dst := none, op := .store _ (.tmp 6) (.tmp 67), type := _, pos := _, after := _, guard := _ } :: _) _ _); refine wpl_store_st rfl (.tmp 6) (.tmp 67) rfl (n := 15) HZI.out w.heap.size #[.int .i64 0, .int .i64 0, .int .i64 0, .int .i64 0, .int .u64 0, .int .u64 0, .int .i64 0, .int .i64 0, .int .i64 0, .int .u64 0, .int .i64 0, .int .i64 0, .int .i64 0, .int .i64 0, .string ⟨#[]⟩] #[.int .i64 1, .int .i64 t.opn, .int .i64 t.view, .int .i64 t.under, .int .u64 (t.parent : Int), .int .u64 (t.sum : Int), .int .i64 e.view, .int .i64 e.opn, .int .i64 e.under, .int .u64 (e.parent : Int), .int .i64 e.client, .int .i64 e.session, .int .i64 e.request, .int .i64 e.oper, .string e.body] rfl rfl hri ?_ (hid rfl) (hid rfl) (hid (by simp [Value.oneCell'])); intro w7 hr7 HB7))
  exact bodyPost_ret (v := .agg #[.int .i64 1, .int .i64 t.opn, .int .i64 t.view, .int .i64 t.under, .int .u64 (t.parent : Int), .int .u64 (t.sum : Int), .int .i64 e.view, .int .i64 e.opn, .int .i64 e.under, .int .u64 (e.parent : Int), .int .i64 e.client, .int .i64 e.session, .int .i64 e.request, .int .i64 e.oper, .string e.body]) (results_cell_row rfl _ _ w.heap.size 44 #[.int .i64 1, .int .i64 t.opn, .int .i64 t.view, .int .i64 t.under, .int .u64 (t.parent : Int), .int .u64 (t.sum : Int), .int .i64 e.view, .int .i64 e.opn, .int .i64 e.under, .int .u64 (e.parent : Int), .int .i64 e.client, .int .i64 e.session, .int .i64 e.request, .int .i64 e.oper, .string e.body] (0, 0) _ rfl (Row.arr (cs := #[.int .i64 1, .int .i64 t.opn, .int .i64 t.view, .int .i64 t.under, .int .u64 (t.parent : Int), .int .u64 (t.sum : Int), .int .i64 e.view, .int .i64 e.opn, .int .i64 e.under, .int .u64 (e.parent : Int), .int .i64 e.client, .int .i64 e.session, .int .i64 e.request, .int .i64 e.oper, .string e.body]) hr7) Tryd.underlying44 rfl HZI.out) rfl ⟨rfl, hbe.trans (below_grown HB7 (Nat.le_refl _) hbe.size)⟩
set_option maxHeartbeats 1000000 in
theorem sjudge_6 (p h : ByteArray) (n : Int) (e : En) (s t : St) (w : World) (hf : Fd w) (hen : (e.opn == n) = false)
    (HE : Hid (∀ W : World, Fd W → Calls Tryd.prog 51 #[.string p] W (LQ W #[.int .i64 e.view, .int .i64 e.opn, .int .i64 e.under, .int .u64 (e.parent : Int), .int .i64 e.client, .int .i64 e.session, .int .i64 e.request, .int .i64 e.oper, .string e.body] true true)))
    (HS : Hid (∀ W : World, Calls Tryd.prog 52 #[.string h] W (LQ W #[.int .i64 s.opn, .int .i64 s.view, .int .i64 s.under, .int .u64 (s.parent : Int), .int .u64 (s.sum : Int)] false false)))
    (HT : Hid (∀ W : World, Fd W → Calls Tryd.prog 13 #[.agg #[.int .i64 e.view, .int .i64 e.opn, .int .i64 e.under, .int .u64 (e.parent : Int), .int .i64 e.client, .int .i64 e.session, .int .i64 e.request, .int .i64 e.oper, .string e.body]] W (VE W (.agg #[.int .i64 t.opn, .int .i64 t.view, .int .i64 t.under, .int .u64 (t.parent : Int), .int .u64 (t.sum : Int)])))) :
    Calls Tryd.prog 27 #[.string p, .string h, .int .i64 n] w (VE w (⟨0, st0, en0⟩ : It).val) := by
  have HZE := hid esize
  have HZS := hid stsize
  have HZI := hid isize
  have HFd := hid hf
  clear hf
  go_enter Tryd.func27, Tryd.ntmps27
  go_wp2_with (first
    | (go_at_call 51; refine (HE.out _ (HFd.out.below ((Below.refl w.heap.size w).alloc (Nat.le_refl _) _) HFd.out.1)).mono ?_; rintro x w1 ⟨rfl, hb1⟩; have hri := (Row.new w 44 #[.int .i64 0, .int .i64 0, .int .i64 0, .int .i64 0, .int .u64 0, .int .u64 0, .int .i64 0, .int .i64 0, .int .i64 0, .int .u64 0, .int .i64 0, .int .i64 0, .int .i64 0, .int .i64 0, .string ⟨#[]⟩]).below hb1 (by simp); have hbe := ((Below.refl w.heap.size w).alloc (Nat.le_refl _) (.cells #[.int .i64 0, .int .i64 0, .int .i64 0, .int .i64 0, .int .u64 0, .int .u64 0, .int .i64 0, .int .i64 0, .int .i64 0, .int .u64 0, .int .i64 0, .int .i64 0, .int .i64 0, .int .i64 0, .string ⟨#[]⟩] 44)).trans (hb1.mono (by simp)))
    | ((with_reducible show wpList _ _ _ ({ dst := none, op := .store _ (.tmp 7) (.tmp 17), type := _, pos := _, after := _, guard := _ } :: _) _ _); refine wpl_store_st rfl (.tmp 7) (.tmp 17) rfl (n := 9) HZE.out w1.heap.size #[.int .i64 0, .int .i64 0, .int .i64 0, .int .u64 0, .int .i64 0, .int .i64 0, .int .i64 0, .int .i64 0, .string ⟨#[]⟩] #[.int .i64 e.view, .int .i64 e.opn, .int .i64 e.under, .int .u64 (e.parent : Int), .int .i64 e.client, .int .i64 e.session, .int .i64 e.request, .int .i64 e.oper, .string e.body] rfl rfl (Row.new _ _ _) ?_ (hid rfl) (hid rfl) (hid (ecells_one e)); intro w2 hre HB2; replace hri := (hri.alloc (.cells #[.int .i64 0, .int .i64 0, .int .i64 0, .int .u64 0, .int .i64 0, .int .i64 0, .int .i64 0, .int .i64 0, .string ⟨#[]⟩] 28)).grown HB2 (by have := hri.lt; intro e; have := Option.some.inj e; omega); replace hbe := (hbe.alloc hbe.size (.cells #[.int .i64 0, .int .i64 0, .int .i64 0, .int .u64 0, .int .i64 0, .int .i64 0, .int .i64 0, .int .i64 0, .string ⟨#[]⟩] 28)).trans (below_grown HB2 hbe.size (by have := hbe.size; simp; omega)))
    | (go_at_call 52; refine (HS.out _).mono ?_; rintro x w3 ⟨rfl, hb3⟩; replace hri := hri.below hb3 hri.lt; replace hre := hre.below hb3 hre.lt; replace hbe := hbe.trans (hb3.mono hbe.size))
    | ((with_reducible show wpList _ _ _ ({ dst := none, op := .store _ (.tmp 10) (.tmp 23), type := _, pos := _, after := _, guard := _ } :: _) _ _); refine wpl_store_st rfl (.tmp 10) (.tmp 23) rfl (n := 5) HZS.out w3.heap.size #[.int .i64 0, .int .i64 0, .int .i64 0, .int .u64 0, .int .u64 0] #[.int .i64 s.opn, .int .i64 s.view, .int .i64 s.under, .int .u64 (s.parent : Int), .int .u64 (s.sum : Int)] rfl rfl (Row.new _ _ _) ?_ (hid rfl) (hid rfl) (hid (stcells_one s)); intro w4 hrs HB4; replace hri := (hri.alloc (.cells #[.int .i64 0, .int .i64 0, .int .i64 0, .int .u64 0, .int .u64 0] 42)).grown HB4 (by have := hri.lt; intro e; have := Option.some.inj e; omega); replace hre := (hre.alloc (.cells #[.int .i64 0, .int .i64 0, .int .i64 0, .int .u64 0, .int .u64 0] 42)).grown HB4 (by have := hre.lt; intro e; have := Option.some.inj e; omega); replace hbe := (hbe.alloc hbe.size (.cells #[.int .i64 0, .int .i64 0, .int .i64 0, .int .u64 0, .int .u64 0] 42)).trans (below_grown HB4 hbe.size (by have := hbe.size; simp; omega)))
    | ((with_reducible show wpList _ _ _ ({ dst := some 26, op := _, type := _, pos := _, after := _, guard := _ } :: _) _ _); refine wpList_load_row rfl 28 (.tmp 7) rfl w1.heap.size rfl 28 #[.int .i64 e.view, .int .i64 e.opn, .int .i64 e.under, .int .u64 (e.parent : Int), .int .i64 e.client, .int .i64 e.session, .int .i64 e.request, .int .i64 e.oper, .string e.body] (0, 0) _ (Row.arr (cs := #[.int .i64 e.view, .int .i64 e.opn, .int .i64 e.under, .int .u64 (e.parent : Int), .int .i64 e.client, .int .i64 e.session, .int .i64 e.request, .int .i64 e.oper, .string e.body]) hre) Tryd.underlying28 rfl HZE.out ?_)
    | (go_at_call 13; refine (HT.out _ (HFd.out.below hbe HFd.out.1)).mono ?_; rintro x w5 ⟨rfl, hb5⟩; replace hri := hri.below hb5 hri.lt; replace hre := hre.below hb5 hre.lt; replace hrs := hrs.below hb5 hrs.lt; replace hbe := hbe.trans (hb5.mono hbe.size))
    | ((with_reducible show wpList _ _ _ ({ dst := none, op := .store _ (.tmp 13) (.tmp 27), type := _, pos := _, after := _, guard := _ } :: _) _ _); refine wpl_store_st rfl (.tmp 13) (.tmp 27) rfl (n := 5) HZS.out w5.heap.size #[.int .i64 0, .int .i64 0, .int .i64 0, .int .u64 0, .int .u64 0] #[.int .i64 t.opn, .int .i64 t.view, .int .i64 t.under, .int .u64 (t.parent : Int), .int .u64 (t.sum : Int)] rfl rfl (Row.new _ _ _) ?_ (hid rfl) (hid rfl) (hid (stcells_one t)); intro w6 hro HB6; replace hri := (hri.alloc (.cells #[.int .i64 0, .int .i64 0, .int .i64 0, .int .u64 0, .int .u64 0] 42)).grown HB6 (by have := hri.lt; intro e; have := Option.some.inj e; omega); replace hre := (hre.alloc (.cells #[.int .i64 0, .int .i64 0, .int .i64 0, .int .u64 0, .int .u64 0] 42)).grown HB6 (by have := hre.lt; intro e; have := Option.some.inj e; omega); replace hrs := (hrs.alloc (.cells #[.int .i64 0, .int .i64 0, .int .i64 0, .int .u64 0, .int .u64 0] 42)).grown HB6 (by have := hrs.lt; intro e; have := Option.some.inj e; omega); replace hbe := (hbe.alloc hbe.size (.cells #[.int .i64 0, .int .i64 0, .int .i64 0, .int .u64 0, .int .u64 0] 42)).trans (below_grown HB6 hbe.size (by have := hbe.size; simp; omega)); have he1 := hre.at_ 1 _ rfl; have hs0 := hrs.at_ 0 _ rfl)
    | ((with_reducible show wpList _ _ _ ({ dst := none, op := .store _ (.tmp 6) (.tmp 70), type := _, pos := _, after := _, guard := _ } :: _) _ _); refine wpl_store_st rfl (.tmp 6) (.tmp 70) rfl (n := 15) HZI.out w.heap.size #[.int .i64 0, .int .i64 0, .int .i64 0, .int .i64 0, .int .u64 0, .int .u64 0, .int .i64 0, .int .i64 0, .int .i64 0, .int .u64 0, .int .i64 0, .int .i64 0, .int .i64 0, .int .i64 0, .string ⟨#[]⟩] #[.int .i64 0, .int .i64 0, .int .i64 0, .int .i64 0, .int .u64 0, .int .u64 0, .int .i64 0, .int .i64 0, .int .i64 0, .int .u64 0, .int .i64 0, .int .i64 0, .int .i64 0, .int .i64 0, .string ⟨#[]⟩] rfl rfl hri ?_ (hid rfl) (hid rfl) (hid (by simp [Value.oneCell'])); intro w7 hr7 HB7))
  exact bodyPost_ret (v := .agg #[.int .i64 0, .int .i64 0, .int .i64 0, .int .i64 0, .int .u64 0, .int .u64 0, .int .i64 0, .int .i64 0, .int .i64 0, .int .u64 0, .int .i64 0, .int .i64 0, .int .i64 0, .int .i64 0, .string ⟨#[]⟩]) (results_cell_row rfl _ _ w.heap.size 44 #[.int .i64 0, .int .i64 0, .int .i64 0, .int .i64 0, .int .u64 0, .int .u64 0, .int .i64 0, .int .i64 0, .int .i64 0, .int .u64 0, .int .i64 0, .int .i64 0, .int .i64 0, .int .i64 0, .string ⟨#[]⟩] (0, 0) _ rfl (Row.arr (cs := #[.int .i64 0, .int .i64 0, .int .i64 0, .int .i64 0, .int .u64 0, .int .u64 0, .int .i64 0, .int .i64 0, .int .i64 0, .int .u64 0, .int .i64 0, .int .i64 0, .int .i64 0, .int .i64 0, .string ⟨#[]⟩]) hr7) Tryd.underlying44 rfl HZI.out) rfl ⟨rfl, hbe.trans (below_grown HB7 (Nat.le_refl _) hbe.size)⟩
set_option maxHeartbeats 1000000 in
theorem sjudge_7 (p h : ByteArray) (n : Int) (e : En) (s t : St) (w : World) (hf : Fd w) 
    (HE : Hid (∀ W : World, Fd W → Calls Tryd.prog 51 #[.string p] W (LQ W #[.int .i64 e.view, .int .i64 e.opn, .int .i64 e.under, .int .u64 (e.parent : Int), .int .i64 e.client, .int .i64 e.session, .int .i64 e.request, .int .i64 e.oper, .string e.body] false true)))
    (HS : Hid (∀ W : World, Calls Tryd.prog 52 #[.string h] W (LQ W #[.int .i64 s.opn, .int .i64 s.view, .int .i64 s.under, .int .u64 (s.parent : Int), .int .u64 (s.sum : Int)] false false)))
    (HT : Hid (∀ W : World, Fd W → Calls Tryd.prog 13 #[.agg #[.int .i64 e.view, .int .i64 e.opn, .int .i64 e.under, .int .u64 (e.parent : Int), .int .i64 e.client, .int .i64 e.session, .int .i64 e.request, .int .i64 e.oper, .string e.body]] W (VE W (.agg #[.int .i64 t.opn, .int .i64 t.view, .int .i64 t.under, .int .u64 (t.parent : Int), .int .u64 (t.sum : Int)])))) :
    Calls Tryd.prog 27 #[.string p, .string h, .int .i64 n] w (VE w (⟨0, st0, en0⟩ : It).val) := by
  have HZE := hid esize
  have HZS := hid stsize
  have HZI := hid isize
  have HFd := hid hf
  clear hf
  go_enter Tryd.func27, Tryd.ntmps27
  go_wp2_with (first
    | (go_at_call 51; refine (HE.out _ (HFd.out.below ((Below.refl w.heap.size w).alloc (Nat.le_refl _) _) HFd.out.1)).mono ?_; rintro x w1 ⟨rfl, hb1⟩; have hri := (Row.new w 44 #[.int .i64 0, .int .i64 0, .int .i64 0, .int .i64 0, .int .u64 0, .int .u64 0, .int .i64 0, .int .i64 0, .int .i64 0, .int .u64 0, .int .i64 0, .int .i64 0, .int .i64 0, .int .i64 0, .string ⟨#[]⟩]).below hb1 (by simp); have hbe := ((Below.refl w.heap.size w).alloc (Nat.le_refl _) (.cells #[.int .i64 0, .int .i64 0, .int .i64 0, .int .i64 0, .int .u64 0, .int .u64 0, .int .i64 0, .int .i64 0, .int .i64 0, .int .u64 0, .int .i64 0, .int .i64 0, .int .i64 0, .int .i64 0, .string ⟨#[]⟩] 44)).trans (hb1.mono (by simp)))
    | ((with_reducible show wpList _ _ _ ({ dst := none, op := .store _ (.tmp 7) (.tmp 17), type := _, pos := _, after := _, guard := _ } :: _) _ _); refine wpl_store_st rfl (.tmp 7) (.tmp 17) rfl (n := 9) HZE.out w1.heap.size #[.int .i64 0, .int .i64 0, .int .i64 0, .int .u64 0, .int .i64 0, .int .i64 0, .int .i64 0, .int .i64 0, .string ⟨#[]⟩] #[.int .i64 e.view, .int .i64 e.opn, .int .i64 e.under, .int .u64 (e.parent : Int), .int .i64 e.client, .int .i64 e.session, .int .i64 e.request, .int .i64 e.oper, .string e.body] rfl rfl (Row.new _ _ _) ?_ (hid rfl) (hid rfl) (hid (ecells_one e)); intro w2 hre HB2; replace hri := (hri.alloc (.cells #[.int .i64 0, .int .i64 0, .int .i64 0, .int .u64 0, .int .i64 0, .int .i64 0, .int .i64 0, .int .i64 0, .string ⟨#[]⟩] 28)).grown HB2 (by have := hri.lt; intro e; have := Option.some.inj e; omega); replace hbe := (hbe.alloc hbe.size (.cells #[.int .i64 0, .int .i64 0, .int .i64 0, .int .u64 0, .int .i64 0, .int .i64 0, .int .i64 0, .int .i64 0, .string ⟨#[]⟩] 28)).trans (below_grown HB2 hbe.size (by have := hbe.size; simp; omega)))
    | (go_at_call 52; refine (HS.out _).mono ?_; rintro x w3 ⟨rfl, hb3⟩; replace hri := hri.below hb3 hri.lt; replace hre := hre.below hb3 hre.lt; replace hbe := hbe.trans (hb3.mono hbe.size))
    | ((with_reducible show wpList _ _ _ ({ dst := none, op := .store _ (.tmp 10) (.tmp 23), type := _, pos := _, after := _, guard := _ } :: _) _ _); refine wpl_store_st rfl (.tmp 10) (.tmp 23) rfl (n := 5) HZS.out w3.heap.size #[.int .i64 0, .int .i64 0, .int .i64 0, .int .u64 0, .int .u64 0] #[.int .i64 s.opn, .int .i64 s.view, .int .i64 s.under, .int .u64 (s.parent : Int), .int .u64 (s.sum : Int)] rfl rfl (Row.new _ _ _) ?_ (hid rfl) (hid rfl) (hid (stcells_one s)); intro w4 hrs HB4; replace hri := (hri.alloc (.cells #[.int .i64 0, .int .i64 0, .int .i64 0, .int .u64 0, .int .u64 0] 42)).grown HB4 (by have := hri.lt; intro e; have := Option.some.inj e; omega); replace hre := (hre.alloc (.cells #[.int .i64 0, .int .i64 0, .int .i64 0, .int .u64 0, .int .u64 0] 42)).grown HB4 (by have := hre.lt; intro e; have := Option.some.inj e; omega); replace hbe := (hbe.alloc hbe.size (.cells #[.int .i64 0, .int .i64 0, .int .i64 0, .int .u64 0, .int .u64 0] 42)).trans (below_grown HB4 hbe.size (by have := hbe.size; simp; omega)))
    | ((with_reducible show wpList _ _ _ ({ dst := some 26, op := _, type := _, pos := _, after := _, guard := _ } :: _) _ _); refine wpList_load_row rfl 28 (.tmp 7) rfl w1.heap.size rfl 28 #[.int .i64 e.view, .int .i64 e.opn, .int .i64 e.under, .int .u64 (e.parent : Int), .int .i64 e.client, .int .i64 e.session, .int .i64 e.request, .int .i64 e.oper, .string e.body] (0, 0) _ (Row.arr (cs := #[.int .i64 e.view, .int .i64 e.opn, .int .i64 e.under, .int .u64 (e.parent : Int), .int .i64 e.client, .int .i64 e.session, .int .i64 e.request, .int .i64 e.oper, .string e.body]) hre) Tryd.underlying28 rfl HZE.out ?_)
    | (go_at_call 13; refine (HT.out _ (HFd.out.below hbe HFd.out.1)).mono ?_; rintro x w5 ⟨rfl, hb5⟩; replace hri := hri.below hb5 hri.lt; replace hre := hre.below hb5 hre.lt; replace hrs := hrs.below hb5 hrs.lt; replace hbe := hbe.trans (hb5.mono hbe.size))
    | ((with_reducible show wpList _ _ _ ({ dst := none, op := .store _ (.tmp 13) (.tmp 27), type := _, pos := _, after := _, guard := _ } :: _) _ _); refine wpl_store_st rfl (.tmp 13) (.tmp 27) rfl (n := 5) HZS.out w5.heap.size #[.int .i64 0, .int .i64 0, .int .i64 0, .int .u64 0, .int .u64 0] #[.int .i64 t.opn, .int .i64 t.view, .int .i64 t.under, .int .u64 (t.parent : Int), .int .u64 (t.sum : Int)] rfl rfl (Row.new _ _ _) ?_ (hid rfl) (hid rfl) (hid (stcells_one t)); intro w6 hro HB6; replace hri := (hri.alloc (.cells #[.int .i64 0, .int .i64 0, .int .i64 0, .int .u64 0, .int .u64 0] 42)).grown HB6 (by have := hri.lt; intro e; have := Option.some.inj e; omega); replace hre := (hre.alloc (.cells #[.int .i64 0, .int .i64 0, .int .i64 0, .int .u64 0, .int .u64 0] 42)).grown HB6 (by have := hre.lt; intro e; have := Option.some.inj e; omega); replace hrs := (hrs.alloc (.cells #[.int .i64 0, .int .i64 0, .int .i64 0, .int .u64 0, .int .u64 0] 42)).grown HB6 (by have := hrs.lt; intro e; have := Option.some.inj e; omega); replace hbe := (hbe.alloc hbe.size (.cells #[.int .i64 0, .int .i64 0, .int .i64 0, .int .u64 0, .int .u64 0] 42)).trans (below_grown HB6 hbe.size (by have := hbe.size; simp; omega)); have he1 := hre.at_ 1 _ rfl; have hs0 := hrs.at_ 0 _ rfl)
    | ((with_reducible show wpList _ _ _ ({ dst := none, op := .store _ (.tmp 6) (.tmp 70), type := _, pos := _, after := _, guard := _ } :: _) _ _); refine wpl_store_st rfl (.tmp 6) (.tmp 70) rfl (n := 15) HZI.out w.heap.size #[.int .i64 0, .int .i64 0, .int .i64 0, .int .i64 0, .int .u64 0, .int .u64 0, .int .i64 0, .int .i64 0, .int .i64 0, .int .u64 0, .int .i64 0, .int .i64 0, .int .i64 0, .int .i64 0, .string ⟨#[]⟩] #[.int .i64 0, .int .i64 0, .int .i64 0, .int .i64 0, .int .u64 0, .int .u64 0, .int .i64 0, .int .i64 0, .int .i64 0, .int .u64 0, .int .i64 0, .int .i64 0, .int .i64 0, .int .i64 0, .string ⟨#[]⟩] rfl rfl hri ?_ (hid rfl) (hid rfl) (hid (by simp [Value.oneCell'])); intro w7 hr7 HB7))
  exact bodyPost_ret (v := .agg #[.int .i64 0, .int .i64 0, .int .i64 0, .int .i64 0, .int .u64 0, .int .u64 0, .int .i64 0, .int .i64 0, .int .i64 0, .int .u64 0, .int .i64 0, .int .i64 0, .int .i64 0, .int .i64 0, .string ⟨#[]⟩]) (results_cell_row rfl _ _ w.heap.size 44 #[.int .i64 0, .int .i64 0, .int .i64 0, .int .i64 0, .int .u64 0, .int .u64 0, .int .i64 0, .int .i64 0, .int .i64 0, .int .u64 0, .int .i64 0, .int .i64 0, .int .i64 0, .int .i64 0, .string ⟨#[]⟩] (0, 0) _ rfl (Row.arr (cs := #[.int .i64 0, .int .i64 0, .int .i64 0, .int .i64 0, .int .u64 0, .int .u64 0, .int .i64 0, .int .i64 0, .int .i64 0, .int .u64 0, .int .i64 0, .int .i64 0, .int .i64 0, .int .i64 0, .string ⟨#[]⟩]) hr7) Tryd.underlying44 rfl HZI.out) rfl ⟨rfl, hbe.trans (below_grown HB7 (Nat.le_refl _) hbe.size)⟩
set_option maxHeartbeats 1000000 in
theorem sjudge_8 (p h : ByteArray) (n : Int) (e : En) (s t : St) (w : World) (hf : Fd w) 
    (HE : Hid (∀ W : World, Fd W → Calls Tryd.prog 51 #[.string p] W (LQ W #[.int .i64 e.view, .int .i64 e.opn, .int .i64 e.under, .int .u64 (e.parent : Int), .int .i64 e.client, .int .i64 e.session, .int .i64 e.request, .int .i64 e.oper, .string e.body] false false)))
    (HS : Hid (∀ W : World, Calls Tryd.prog 52 #[.string h] W (LQ W #[.int .i64 s.opn, .int .i64 s.view, .int .i64 s.under, .int .u64 (s.parent : Int), .int .u64 (s.sum : Int)] false false)))
    (HT : Hid (∀ W : World, Fd W → Calls Tryd.prog 13 #[.agg #[.int .i64 e.view, .int .i64 e.opn, .int .i64 e.under, .int .u64 (e.parent : Int), .int .i64 e.client, .int .i64 e.session, .int .i64 e.request, .int .i64 e.oper, .string e.body]] W (VE W (.agg #[.int .i64 t.opn, .int .i64 t.view, .int .i64 t.under, .int .u64 (t.parent : Int), .int .u64 (t.sum : Int)])))) :
    Calls Tryd.prog 27 #[.string p, .string h, .int .i64 n] w (VE w (⟨3, st0, en0⟩ : It).val) := by
  have HZE := hid esize
  have HZS := hid stsize
  have HZI := hid isize
  have HFd := hid hf
  clear hf
  go_enter Tryd.func27, Tryd.ntmps27
  go_wp2_with (first
    | (go_at_call 51; refine (HE.out _ (HFd.out.below ((Below.refl w.heap.size w).alloc (Nat.le_refl _) _) HFd.out.1)).mono ?_; rintro x w1 ⟨rfl, hb1⟩; have hri := (Row.new w 44 #[.int .i64 0, .int .i64 0, .int .i64 0, .int .i64 0, .int .u64 0, .int .u64 0, .int .i64 0, .int .i64 0, .int .i64 0, .int .u64 0, .int .i64 0, .int .i64 0, .int .i64 0, .int .i64 0, .string ⟨#[]⟩]).below hb1 (by simp); have hbe := ((Below.refl w.heap.size w).alloc (Nat.le_refl _) (.cells #[.int .i64 0, .int .i64 0, .int .i64 0, .int .i64 0, .int .u64 0, .int .u64 0, .int .i64 0, .int .i64 0, .int .i64 0, .int .u64 0, .int .i64 0, .int .i64 0, .int .i64 0, .int .i64 0, .string ⟨#[]⟩] 44)).trans (hb1.mono (by simp)))
    | ((with_reducible show wpList _ _ _ ({ dst := none, op := .store _ (.tmp 7) (.tmp 17), type := _, pos := _, after := _, guard := _ } :: _) _ _); refine wpl_store_st rfl (.tmp 7) (.tmp 17) rfl (n := 9) HZE.out w1.heap.size #[.int .i64 0, .int .i64 0, .int .i64 0, .int .u64 0, .int .i64 0, .int .i64 0, .int .i64 0, .int .i64 0, .string ⟨#[]⟩] #[.int .i64 e.view, .int .i64 e.opn, .int .i64 e.under, .int .u64 (e.parent : Int), .int .i64 e.client, .int .i64 e.session, .int .i64 e.request, .int .i64 e.oper, .string e.body] rfl rfl (Row.new _ _ _) ?_ (hid rfl) (hid rfl) (hid (ecells_one e)); intro w2 hre HB2; replace hri := (hri.alloc (.cells #[.int .i64 0, .int .i64 0, .int .i64 0, .int .u64 0, .int .i64 0, .int .i64 0, .int .i64 0, .int .i64 0, .string ⟨#[]⟩] 28)).grown HB2 (by have := hri.lt; intro e; have := Option.some.inj e; omega); replace hbe := (hbe.alloc hbe.size (.cells #[.int .i64 0, .int .i64 0, .int .i64 0, .int .u64 0, .int .i64 0, .int .i64 0, .int .i64 0, .int .i64 0, .string ⟨#[]⟩] 28)).trans (below_grown HB2 hbe.size (by have := hbe.size; simp; omega)))
    | (go_at_call 52; refine (HS.out _).mono ?_; rintro x w3 ⟨rfl, hb3⟩; replace hri := hri.below hb3 hri.lt; replace hre := hre.below hb3 hre.lt; replace hbe := hbe.trans (hb3.mono hbe.size))
    | ((with_reducible show wpList _ _ _ ({ dst := none, op := .store _ (.tmp 10) (.tmp 23), type := _, pos := _, after := _, guard := _ } :: _) _ _); refine wpl_store_st rfl (.tmp 10) (.tmp 23) rfl (n := 5) HZS.out w3.heap.size #[.int .i64 0, .int .i64 0, .int .i64 0, .int .u64 0, .int .u64 0] #[.int .i64 s.opn, .int .i64 s.view, .int .i64 s.under, .int .u64 (s.parent : Int), .int .u64 (s.sum : Int)] rfl rfl (Row.new _ _ _) ?_ (hid rfl) (hid rfl) (hid (stcells_one s)); intro w4 hrs HB4; replace hri := (hri.alloc (.cells #[.int .i64 0, .int .i64 0, .int .i64 0, .int .u64 0, .int .u64 0] 42)).grown HB4 (by have := hri.lt; intro e; have := Option.some.inj e; omega); replace hre := (hre.alloc (.cells #[.int .i64 0, .int .i64 0, .int .i64 0, .int .u64 0, .int .u64 0] 42)).grown HB4 (by have := hre.lt; intro e; have := Option.some.inj e; omega); replace hbe := (hbe.alloc hbe.size (.cells #[.int .i64 0, .int .i64 0, .int .i64 0, .int .u64 0, .int .u64 0] 42)).trans (below_grown HB4 hbe.size (by have := hbe.size; simp; omega)))
    | ((with_reducible show wpList _ _ _ ({ dst := some 26, op := _, type := _, pos := _, after := _, guard := _ } :: _) _ _); refine wpList_load_row rfl 28 (.tmp 7) rfl w1.heap.size rfl 28 #[.int .i64 e.view, .int .i64 e.opn, .int .i64 e.under, .int .u64 (e.parent : Int), .int .i64 e.client, .int .i64 e.session, .int .i64 e.request, .int .i64 e.oper, .string e.body] (0, 0) _ (Row.arr (cs := #[.int .i64 e.view, .int .i64 e.opn, .int .i64 e.under, .int .u64 (e.parent : Int), .int .i64 e.client, .int .i64 e.session, .int .i64 e.request, .int .i64 e.oper, .string e.body]) hre) Tryd.underlying28 rfl HZE.out ?_)
    | (go_at_call 13; refine (HT.out _ (HFd.out.below hbe HFd.out.1)).mono ?_; rintro x w5 ⟨rfl, hb5⟩; replace hri := hri.below hb5 hri.lt; replace hre := hre.below hb5 hre.lt; replace hrs := hrs.below hb5 hrs.lt; replace hbe := hbe.trans (hb5.mono hbe.size))
    | ((with_reducible show wpList _ _ _ ({ dst := none, op := .store _ (.tmp 13) (.tmp 27), type := _, pos := _, after := _, guard := _ } :: _) _ _); refine wpl_store_st rfl (.tmp 13) (.tmp 27) rfl (n := 5) HZS.out w5.heap.size #[.int .i64 0, .int .i64 0, .int .i64 0, .int .u64 0, .int .u64 0] #[.int .i64 t.opn, .int .i64 t.view, .int .i64 t.under, .int .u64 (t.parent : Int), .int .u64 (t.sum : Int)] rfl rfl (Row.new _ _ _) ?_ (hid rfl) (hid rfl) (hid (stcells_one t)); intro w6 hro HB6; replace hri := (hri.alloc (.cells #[.int .i64 0, .int .i64 0, .int .i64 0, .int .u64 0, .int .u64 0] 42)).grown HB6 (by have := hri.lt; intro e; have := Option.some.inj e; omega); replace hre := (hre.alloc (.cells #[.int .i64 0, .int .i64 0, .int .i64 0, .int .u64 0, .int .u64 0] 42)).grown HB6 (by have := hre.lt; intro e; have := Option.some.inj e; omega); replace hrs := (hrs.alloc (.cells #[.int .i64 0, .int .i64 0, .int .i64 0, .int .u64 0, .int .u64 0] 42)).grown HB6 (by have := hrs.lt; intro e; have := Option.some.inj e; omega); replace hbe := (hbe.alloc hbe.size (.cells #[.int .i64 0, .int .i64 0, .int .i64 0, .int .u64 0, .int .u64 0] 42)).trans (below_grown HB6 hbe.size (by have := hbe.size; simp; omega)); have he1 := hre.at_ 1 _ rfl; have hs0 := hrs.at_ 0 _ rfl)
    | ((with_reducible show wpList _ _ _ ({ dst := none, op := .store _ (.tmp 6) (.tmp 71), type := _, pos := _, after := _, guard := _ } :: _) _ _); refine wpl_store_st rfl (.tmp 6) (.tmp 71) rfl (n := 15) HZI.out w.heap.size #[.int .i64 0, .int .i64 0, .int .i64 0, .int .i64 0, .int .u64 0, .int .u64 0, .int .i64 0, .int .i64 0, .int .i64 0, .int .u64 0, .int .i64 0, .int .i64 0, .int .i64 0, .int .i64 0, .string ⟨#[]⟩] #[.int .i64 3, .int .i64 0, .int .i64 0, .int .i64 0, .int .u64 0, .int .u64 0, .int .i64 0, .int .i64 0, .int .i64 0, .int .u64 0, .int .i64 0, .int .i64 0, .int .i64 0, .int .i64 0, .string ⟨#[]⟩] rfl rfl hri ?_ (hid rfl) (hid rfl) (hid (by simp [Value.oneCell'])); intro w7 hr7 HB7))
  exact bodyPost_ret (v := .agg #[.int .i64 3, .int .i64 0, .int .i64 0, .int .i64 0, .int .u64 0, .int .u64 0, .int .i64 0, .int .i64 0, .int .i64 0, .int .u64 0, .int .i64 0, .int .i64 0, .int .i64 0, .int .i64 0, .string ⟨#[]⟩]) (results_cell_row rfl _ _ w.heap.size 44 #[.int .i64 3, .int .i64 0, .int .i64 0, .int .i64 0, .int .u64 0, .int .u64 0, .int .i64 0, .int .i64 0, .int .i64 0, .int .u64 0, .int .i64 0, .int .i64 0, .int .i64 0, .int .i64 0, .string ⟨#[]⟩] (0, 0) _ rfl (Row.arr (cs := #[.int .i64 3, .int .i64 0, .int .i64 0, .int .i64 0, .int .u64 0, .int .u64 0, .int .i64 0, .int .i64 0, .int .i64 0, .int .u64 0, .int .i64 0, .int .i64 0, .int .i64 0, .int .i64 0, .string ⟨#[]⟩]) hr7) Tryd.underlying44 rfl HZI.out) rfl ⟨rfl, hbe.trans (below_grown HB7 (Nat.le_refl _) hbe.size)⟩
end Go.Proofs.YtneacphibklbgaaDoor
/-
  Package slot's Judge: what two sectors say together.
-/
namespace Go.Proofs.YtneacphibklbgaaDoor
open Go.RowKit
set_option maxRecDepth 10000

theorem unpS_ok {s : List UInt8} {h : Hd} {b : List UInt8} (e : unpackS s = (h, b, 0)) : packS h b = (s, 0) ∧ h.fits := by
  unfold unpackS at e
  by_cases h1 : s.length < 128
  · rw [if_pos h1] at e
    simp at e
  · rw [if_neg h1] at e
    by_cases h2 : packS (hdOf (takeN (s.take 128))) (s.drop 128) = (s, 0)
    · rw [if_pos h2] at e
      obtain ⟨e1, e2⟩ := Prod.mk.inj e
      obtain ⟨e2, _⟩ := Prod.mk.inj e2
      subst e1 e2
      exact ⟨h2, hdS_fits s (by omega)⟩
    · rw [if_neg h2] at e
      simp at e
theorem eofS_fits {h : Hd} (b : ByteArray) (hh : h.fits) : (eof h b).fits := by
  obtain ⟨⟨a1, a2, a3, a4, a5, a6⟩, ⟨b1, b2, b3, b4, b5⟩, hp⟩ := hh
  exact ⟨⟨a4, a5, b4, b1⟩, ⟨b2, b3, a3⟩, hp⟩
theorem entryS_read (p : List UInt8) : (entryS p).2.1 = true → (entryS p).2.2 = true := by
  unfold entryS
  split
  · simp
  · split <;> simp
theorem entryS_none (p : List UInt8) : (entryS p).2.1 = false → (entryS p).1 = en0 := by
  unfold entryS
  split
  · simp
  · split <;> simp
theorem stubT_read (p : List UInt8) : (stubT p).2.1 = true → (stubT p).2.2 = true := by
  unfold stubT
  split
  · simp
  · split <;> simp
theorem stubT_rt (p : List UInt8) : (stubT p).2.1 = true → SRt (stubT p).1 := by
  unfold stubT
  split
  · simp
  · split
    · rename_i h
      exact fun _ => unpackT_ok h
    · simp
theorem en0_fits : en0.fits := by unfold En.fits en0 In64; simp
theorem unpackE_fits (s : List UInt8) : (unpackE s).1.fits := by
  unfold unpackE
  split
  · rename_i h
    have e : unpackS s = ((unpackS s).1, (unpackS s).2.1, 0) := by rw [← h.1]
    exact eofS_fits _ (unpS_ok e).2
  · exact en0_fits
theorem entryS_fits (p : List UInt8) : (entryS p).1.fits := by
  unfold entryS
  split
  · exact en0_fits
  · split
    · exact unpackE_fits _
    · exact en0_fits
theorem judge_any (p h : ByteArray) (n : Int) (w : World) (hf : Fd w) : Calls Tryd.prog 27 #[.string p, .string h, .int .i64 n] w (VE w (judgeS (sb p) (sb h) n).val) := by
  have HE := hid (fun W (hW : Fd W) => entryS_any p W hW)
  have HS := hid (fun W => stubT_any h W)
  have HT := hid (fun W (hW : Fd W) => sstub_any (entryS (sb p)).1 (entryS_fits _) W hW)
  have r1 := entryS_read (sb p)
  have r2 := stubT_read (sb h)
  unfold judgeS
  generalize entryS (sb p) = E at *
  generalize stubT (sb h) = T at *
  obtain ⟨e, kept, readp⟩ := E
  obtain ⟨s, noted, readh⟩ := T
  simp only at *
  generalize stubS e = t at *
  cases noted
  · rw [if_neg (by simp), if_neg (by simp)]
    cases readh
    · rw [if_neg (by simp)]
      cases kept
      · rw [if_neg (by simp)]
        cases readp
        · rw [if_neg (by simp)]
          exact sjudge_8 p h n e s t w hf HE HS HT
        · rw [if_pos rfl]
          exact sjudge_7 p h n e s t w hf HE HS HT
      · rw [r1 rfl] at HE ⊢
        by_cases hn : e.opn = n
        · rw [if_pos ⟨rfl, hn⟩]
          exact sjudge_5 p h n e s t w hf (by simpa using hn) HE HS HT
        · rw [if_neg (fun q => hn q.2), if_pos rfl]
          exact sjudge_6 p h n e s t w hf (by simpa using hn) HE HS HT
    · rw [if_pos rfl]
      exact sjudge_4 p h n e s t kept readp w hf HE HS HT
  · rw [r2 rfl] at HS ⊢
    by_cases hn : s.opn = n
    · by_cases hq : t = s
      · rw [if_pos ⟨rfl, hn, hq⟩]
        exact sjudge_1 p h n e s t kept readp w hf (by simpa using hn) (hid (by simpa using hq)) HE HS HT
      · rw [if_neg (fun q => hq q.2.2), if_pos ⟨rfl, hn⟩]
        exact sjudge_2 p h n e s t kept readp w hf (by simpa using hn) (hid (by simpa using hq)) HE HS HT
    · rw [if_neg (fun q => hn q.2.1), if_neg (fun q => hn q.2), if_pos rfl]
      exact sjudge_3 p h n e s t kept readp w hf (by simpa using hn) HE HS HT
end Go.Proofs.YtneacphibklbgaaDoor
