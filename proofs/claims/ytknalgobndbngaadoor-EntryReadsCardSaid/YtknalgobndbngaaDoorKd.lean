/-
  Small words that the texts of this seat share: structs held against each other, loaded, stored, told.
-/
import Derived.Test.YtknalgobndbngaaDoorUnp
import Derived.Laws.StructEq
import Derived.BigFrame
import Derived.Laws.IdiomCopy
namespace Go.Proofs.YtknalgobndbngaaDoor
open Go.RowKit
set_option maxRecDepth 10000

theorem eqF_int {P : Program} {W : World} (d : Nat) (xs ys : Array Value) (f : Field) (fs : List Field) (k : IntKind) (a b : Int) (hn : f.name ≠ "_") (hx : (part f.type xs f.offset).run P W = .ok (.int k a) W) (hy : (part f.type ys f.offset).run P W = .ok (.int k b) W) (ht : P.underlying f.type = some (.int k)) :
    (Op.eqFields (d + 1) xs ys (f :: fs)).run P W = if a = b then (Op.eqFields (d + 1) xs ys fs).run P W else .ok false W := by
  simp only [Op.eqFields, if_pos hn, Sem.run_bind, hx, hy, Result.andThen_ok, run_equalIn_int W d f.type k k a b ht]
  by_cases h : a = b
  · subst h
    simp
  · simp [h]
theorem eqF_nil {P : Program} {W : World} (d : Nat) (xs ys : Array Value) : (Op.eqFields d xs ys []).run P W = .ok true W := by simp [Op.eqFields]

theorem part_int {P : Program} {W : World} (t : TypeId) (xs : Array Value) (i : Nat) (v : Value) (ik : IntKind) (ht : P.underlying t = some (.int ik)) (hs : (P.info? t).map (·.size) = some 1) (hv : xs[i]? = some v) : (part t xs i).run P W = .ok v W := by
  obtain ⟨j, hj, hjs⟩ := Option.map_eq_some_iff.1 hs
  simp [part, isAgg, run_underlying ht, sizeOf, typeInfo, hj, hjs, hv]

theorem sizeInt : (Tryd.prog.info? 3).map (·.size) = some 1 := by kernel_rfl
theorem sizeU64 : (Tryd.prog.info? 22).map (·.size) = some 1 := by kernel_rfl
theorem headFields : (Tryd.prog.fieldsOf 43).toList = [{ name := "Kind", type := 3, offset := 0, embedded := false, tag := "", pkgPath := "", byteOffset := 0 }, { name := "From", type := 3, offset := 1, embedded := false, tag := "", pkgPath := "", byteOffset := 8 }, { name := "Operation", type := 3, offset := 2, embedded := false, tag := "", pkgPath := "", byteOffset := 16 }, { name := "View", type := 3, offset := 3, embedded := false, tag := "", pkgPath := "", byteOffset := 24 }, { name := "Op", type := 3, offset := 4, embedded := false, tag := "", pkgPath := "", byteOffset := 32 }, { name := "Commit", type := 3, offset := 5, embedded := false, tag := "", pkgPath := "", byteOffset := 40 }, { name := "Client", type := 3, offset := 6, embedded := false, tag := "", pkgPath := "", byteOffset := 48 }, { name := "Session", type := 3, offset := 7, embedded := false, tag := "", pkgPath := "", byteOffset := 56 }, { name := "Request", type := 3, offset := 8, embedded := false, tag := "", pkgPath := "", byteOffset := 64 }, { name := "A", type := 3, offset := 9, embedded := false, tag := "", pkgPath := "", byteOffset := 72 }, { name := "B", type := 3, offset := 10, embedded := false, tag := "", pkgPath := "", byteOffset := 80 }, { name := "Parent", type := 22, offset := 11, embedded := false, tag := "", pkgPath := "", byteOffset := 88 }] := by kernel_rfl

set_option maxHeartbeats 1000000 in
theorem eql_head (h g : Hd) (W : World) : (Op.equalIn 10000 43 (.agg h.cells) (.agg g.cells)).run Tryd.prog W = .ok (decide (h = g)) W := by
  rw [run_equalIn_struct W 9999 43 h.cells g.cells (by kernel_rfl) (by kernel_rfl), headFields]
  have x0 : h.cells[0]? = some (.int .i64 (h.kind : Int)) := rfl
  have y0 : g.cells[0]? = some (.int .i64 (g.kind : Int)) := rfl
  have x1 : h.cells[1]? = some (.int .i64 (h.frm : Int)) := rfl
  have y1 : g.cells[1]? = some (.int .i64 (g.frm : Int)) := rfl
  have x2 : h.cells[2]? = some (.int .i64 (h.oper : Int)) := rfl
  have y2 : g.cells[2]? = some (.int .i64 (g.oper : Int)) := rfl
  have x3 : h.cells[3]? = some (.int .i64 (h.view : Int)) := rfl
  have y3 : g.cells[3]? = some (.int .i64 (g.view : Int)) := rfl
  have x4 : h.cells[4]? = some (.int .i64 (h.opn : Int)) := rfl
  have y4 : g.cells[4]? = some (.int .i64 (g.opn : Int)) := rfl
  have x5 : h.cells[5]? = some (.int .i64 (h.commit : Int)) := rfl
  have y5 : g.cells[5]? = some (.int .i64 (g.commit : Int)) := rfl
  have x6 : h.cells[6]? = some (.int .i64 (h.client : Int)) := rfl
  have y6 : g.cells[6]? = some (.int .i64 (g.client : Int)) := rfl
  have x7 : h.cells[7]? = some (.int .i64 (h.session : Int)) := rfl
  have y7 : g.cells[7]? = some (.int .i64 (g.session : Int)) := rfl
  have x8 : h.cells[8]? = some (.int .i64 (h.request : Int)) := rfl
  have y8 : g.cells[8]? = some (.int .i64 (g.request : Int)) := rfl
  have x9 : h.cells[9]? = some (.int .i64 (h.a : Int)) := rfl
  have y9 : g.cells[9]? = some (.int .i64 (g.a : Int)) := rfl
  have x10 : h.cells[10]? = some (.int .i64 (h.b : Int)) := rfl
  have y10 : g.cells[10]? = some (.int .i64 (g.b : Int)) := rfl
  have x11 : h.cells[11]? = some (.int .u64 (h.parent : Int)) := rfl
  have y11 : g.cells[11]? = some (.int .u64 (g.parent : Int)) := rfl
  generalize h.cells = X at *
  generalize g.cells = Y at *
  rw [eqF_int (P := Tryd.prog) (W := W) 9998 X Y { name := "Kind", type := 3, offset := 0, embedded := false, tag := "", pkgPath := "", byteOffset := 0 } _ .i64 (h.kind : Int) (g.kind : Int) (by simp) (part_int 3 X 0 _ .i64 Tryd.underlying3 sizeInt x0) (part_int 3 Y 0 _ .i64 Tryd.underlying3 sizeInt y0) Tryd.underlying3]
  rw [eqF_int (P := Tryd.prog) (W := W) 9998 X Y { name := "From", type := 3, offset := 1, embedded := false, tag := "", pkgPath := "", byteOffset := 8 } _ .i64 (h.frm : Int) (g.frm : Int) (by simp) (part_int 3 X 1 _ .i64 Tryd.underlying3 sizeInt x1) (part_int 3 Y 1 _ .i64 Tryd.underlying3 sizeInt y1) Tryd.underlying3]
  rw [eqF_int (P := Tryd.prog) (W := W) 9998 X Y { name := "Operation", type := 3, offset := 2, embedded := false, tag := "", pkgPath := "", byteOffset := 16 } _ .i64 (h.oper : Int) (g.oper : Int) (by simp) (part_int 3 X 2 _ .i64 Tryd.underlying3 sizeInt x2) (part_int 3 Y 2 _ .i64 Tryd.underlying3 sizeInt y2) Tryd.underlying3]
  rw [eqF_int (P := Tryd.prog) (W := W) 9998 X Y { name := "View", type := 3, offset := 3, embedded := false, tag := "", pkgPath := "", byteOffset := 24 } _ .i64 (h.view : Int) (g.view : Int) (by simp) (part_int 3 X 3 _ .i64 Tryd.underlying3 sizeInt x3) (part_int 3 Y 3 _ .i64 Tryd.underlying3 sizeInt y3) Tryd.underlying3]
  rw [eqF_int (P := Tryd.prog) (W := W) 9998 X Y { name := "Op", type := 3, offset := 4, embedded := false, tag := "", pkgPath := "", byteOffset := 32 } _ .i64 (h.opn : Int) (g.opn : Int) (by simp) (part_int 3 X 4 _ .i64 Tryd.underlying3 sizeInt x4) (part_int 3 Y 4 _ .i64 Tryd.underlying3 sizeInt y4) Tryd.underlying3]
  rw [eqF_int (P := Tryd.prog) (W := W) 9998 X Y { name := "Commit", type := 3, offset := 5, embedded := false, tag := "", pkgPath := "", byteOffset := 40 } _ .i64 (h.commit : Int) (g.commit : Int) (by simp) (part_int 3 X 5 _ .i64 Tryd.underlying3 sizeInt x5) (part_int 3 Y 5 _ .i64 Tryd.underlying3 sizeInt y5) Tryd.underlying3]
  rw [eqF_int (P := Tryd.prog) (W := W) 9998 X Y { name := "Client", type := 3, offset := 6, embedded := false, tag := "", pkgPath := "", byteOffset := 48 } _ .i64 (h.client : Int) (g.client : Int) (by simp) (part_int 3 X 6 _ .i64 Tryd.underlying3 sizeInt x6) (part_int 3 Y 6 _ .i64 Tryd.underlying3 sizeInt y6) Tryd.underlying3]
  rw [eqF_int (P := Tryd.prog) (W := W) 9998 X Y { name := "Session", type := 3, offset := 7, embedded := false, tag := "", pkgPath := "", byteOffset := 56 } _ .i64 (h.session : Int) (g.session : Int) (by simp) (part_int 3 X 7 _ .i64 Tryd.underlying3 sizeInt x7) (part_int 3 Y 7 _ .i64 Tryd.underlying3 sizeInt y7) Tryd.underlying3]
  rw [eqF_int (P := Tryd.prog) (W := W) 9998 X Y { name := "Request", type := 3, offset := 8, embedded := false, tag := "", pkgPath := "", byteOffset := 64 } _ .i64 (h.request : Int) (g.request : Int) (by simp) (part_int 3 X 8 _ .i64 Tryd.underlying3 sizeInt x8) (part_int 3 Y 8 _ .i64 Tryd.underlying3 sizeInt y8) Tryd.underlying3]
  rw [eqF_int (P := Tryd.prog) (W := W) 9998 X Y { name := "A", type := 3, offset := 9, embedded := false, tag := "", pkgPath := "", byteOffset := 72 } _ .i64 (h.a : Int) (g.a : Int) (by simp) (part_int 3 X 9 _ .i64 Tryd.underlying3 sizeInt x9) (part_int 3 Y 9 _ .i64 Tryd.underlying3 sizeInt y9) Tryd.underlying3]
  rw [eqF_int (P := Tryd.prog) (W := W) 9998 X Y { name := "B", type := 3, offset := 10, embedded := false, tag := "", pkgPath := "", byteOffset := 80 } _ .i64 (h.b : Int) (g.b : Int) (by simp) (part_int 3 X 10 _ .i64 Tryd.underlying3 sizeInt x10) (part_int 3 Y 10 _ .i64 Tryd.underlying3 sizeInt y10) Tryd.underlying3]
  rw [eqF_int (P := Tryd.prog) (W := W) 9998 X Y { name := "Parent", type := 22, offset := 11, embedded := false, tag := "", pkgPath := "", byteOffset := 88 } _ .u64 (h.parent : Int) (g.parent : Int) (by simp) (part_int 22 X 11 _ .u64 Tryd.underlying22 sizeU64 x11) (part_int 22 Y 11 _ .u64 Tryd.underlying22 sizeU64 y11) Tryd.underlying22]
  rw [eqF_nil]
  clear x0 y0 x1 y1 x2 y2 x3 y3 x4 y4 x5 y5 x6 y6 x7 y7 x8 y8 x9 y9 x10 y10 x11 y11
  obtain ⟨kind1, frm1, oper1, view1, opn1, commit1, client1, session1, request1, a1, b1, parent1⟩ := h
  obtain ⟨kind2, frm2, oper2, view2, opn2, commit2, client2, session2, request2, a2, b2, parent2⟩ := g
  have hp : (parent1 = parent2) = ((parent1 : Int) = (parent2 : Int)) := by rw [Int.natCast_inj]
  simp only [Hd.mk.injEq, hp]
  by_cases c0 : kind1 = kind2
  case neg => simp [c0]
  by_cases c1 : frm1 = frm2
  case neg => simp [c1]
  by_cases c2 : oper1 = oper2
  case neg => simp [c2]
  by_cases c3 : view1 = view2
  case neg => simp [c3]
  by_cases c4 : opn1 = opn2
  case neg => simp [c4]
  by_cases c5 : commit1 = commit2
  case neg => simp [c5]
  by_cases c6 : client1 = client2
  case neg => simp [c6]
  by_cases c7 : session1 = session2
  case neg => simp [c7]
  by_cases c8 : request1 = request2
  case neg => simp [c8]
  by_cases c9 : a1 = a2
  case neg => simp [c9]
  by_cases c10 : b1 = b2
  case neg => simp [c10]
  by_cases c11 : (parent1 : Int) = (parent2 : Int)
  case neg => simp [c11]
  simp [*]

theorem part_str {P : Program} {W : World} (t : TypeId) (xs : Array Value) (i : Nat) (v : Value) (ht : P.underlying t = some .string) (hs : (P.info? t).map (·.size) = some 1) (hv : xs[i]? = some v) : (part t xs i).run P W = .ok v W := by
  obtain ⟨j, hj, hjs⟩ := Option.map_eq_some_iff.1 hs
  simp [part, isAgg, run_underlying ht, sizeOf, typeInfo, hj, hjs, hv]
theorem sizeStr : (Tryd.prog.info? 9).map (·.size) = some 1 := by kernel_rfl
theorem eqF_strs {P : Program} {W : World} (d : Nat) (xs ys : Array Value) (f : Field) (fs : List Field) (a b : ByteArray) (hn : f.name ≠ "_") (hx : (part f.type xs f.offset).run P W = .ok (.string a) W) (hy : (part f.type ys f.offset).run P W = .ok (.string b) W) (ht : P.underlying f.type = some .string) :
    (Op.eqFields (d + 1) xs ys (f :: fs)).run P W = if a = b then (Op.eqFields (d + 1) xs ys fs).run P W else .ok false W := by
  simp only [Op.eqFields, if_pos hn, Sem.run_bind, hx, hy, Result.andThen_ok, run_equalIn_string W d f.type a b ht]
  by_cases h : a = b
  · subst h
    simp
  · have h2 := str_ne h
    simp [h, h2]
theorem Row.at_ {w : World} {g : Nat} {e : TypeId} {cs : List Value} (h : Row w g e cs) (i : Nat) (u : Value) (hu : cs[i]? = some u) : w.cell? ⟨g, i, none⟩ = some u := (h.cell i).trans hu
/-- a load under a guard that says yes -/
theorem wpl_load_want {P : Program} {ops : Array Oper} {rest : List Oper} {o : Oper} {a : Act} {w : World} {Q : Exit → Act → World → Prop} (hw : Region.wanted o (yielded ops a.tmps) = true) (ty : TypeId) (x : Operand) (ho : o.op = .load ty x)
    (g : Nat) (hx : a.eval x = .pointer (some ⟨g, 0, none⟩)) (t : TypeId) (cs : Array Value) (fr : Nat × Nat) (d : TypeDesc) (hg : w.heap[g]? = some (.cells cs t fr))
    (hu : P.underlying ty = some d) (hd : (match d with | .struct _ | .array _ _ => true | _ => false) = true) (hi : (P.info? ty).map (·.size) = some cs.size)
    (h : wpList P ops Q rest (a.put o.dst (.agg cs)) w) : wpList P ops Q (o :: rest) a w :=
  BigFrame.wpList_want hw fun _ hK => wp_load_row ty x ho g hx t cs fr d hg hu hd hi (hK _ _ h)
/-- a store of a struct -/
theorem wpl_store_st {P : Program} {ops : Array Oper} {rest : List Oper} {o : Oper} {a : Act} {w : World} {Q : Exit → Act → World → Prop} (hgd : o.guard = none) {T : TypeId} (x y : Operand) (ho : o.op = .store T x y) {n : Nat} (hn : (P.info? T).map (·.size) = some n)
    (g : Nat) (cs0 cs : Array Value) (hx : a.eval x = .pointer (some ⟨g, 0, none⟩)) (hy : a.eval y = .agg cs) (hrow : Row w g T cs0.toList)
    (hK : ∀ w', Row w' g T cs.toList → w.grownBy w' (some g) → wpList P ops Q rest (a.put o.dst undef) w')
    (h0 : Hid (cs0.size = n)) (h1 : Hid (cs.size = n)) (hone : Hid (cs.all (·.oneCell') = true)) : wpList P ops Q (o :: rest) a w :=
  wpList_plain hgd fun _ hK' => wp_store_row T x y ho g cs hx hy T cs0 hrow.arr (by rw [hn, h1.out]) (by simp [h0.out, h1.out]) (by simpa using hone.out)
    (hK' _ _ (hK _ (by
      have := setRow_heap w g cs0 cs T (0, 0) hrow.arr
      simpa [Row] using this) (grownBy_setRow w g _)))
/-- a store of one cell -/
theorem wpl_store_c {P : Program} {ops : Array Oper} {rest : List Oper} {o : Oper} {a : Act} {w : World} {Q : Exit → Act → World → Prop} (hgd : o.guard = none) (T : TypeId) (x y : Operand) (ho : o.op = .store T x y)
    (g i : Nat) (v : Value) (hx : a.eval x = .pointer (some ⟨g, i, none⟩)) (hy : a.eval y = v) {E : TypeId} {xs : List Value} (hrow : Row w g E xs) (hs : (P.info? T).map (·.size) = some 1)
    (hK : ∀ w', Row w' g E (xs.set i v) → w.grownBy w' (some g) → wpList P ops Q rest (a.put o.dst undef) w')
    (hi : Hid (i < xs.length)) (hone : Hid (v.oneCell' = true)) : wpList P ops Q (o :: rest) a w :=
  wpList_plain hgd fun _ hK' => by
    have h1 := run_storeCells_cells (P := P) g i [v] 0 w (fun j hj => by
      have : j = 0 := by simpa using hj
      subst this
      show (w.cell? ⟨g, i, none⟩).isSome = true
      rw [hrow.cell, List.getElem?_eq_getElem hi.out]; rfl) (fun j hj => hrow.frozen _) (fun u hu => by rw [List.mem_singleton.1 hu]; exact hone.out)
    have hc : v.cells = #[v] := by
      have := hone.out
      cases v <;> first | rfl | cases this
    have hrun : (storeVar T ⟨g, i, none⟩ v).run P w = .ok () (w.setCell ⟨g, i, none⟩ v) := by
      obtain ⟨j, hj, hjs⟩ := Option.map_eq_some_iff.1 hs
      simp only [Nat.add_zero] at h1
      simp [storeVar, sizeOf, typeInfo, hj, hjs, hc, h1]
      rfl
    unfold Oper.wp execOp
    simp only [ho, hx, hy, Instr.storeAt, Instr.sureAddr, Sem.run_bind, Sem.run_pure, Result.andThen_ok, hrun]
    exact hK' _ _ (hK _ (hrow.set_ i v) ⟨rfl, rfl, rfl, by simp, fun k _ hr => heap_setCell_other w ⟨g, i, none⟩ k v (by intro e; exact hr (by rw [e]))⟩)
theorem results_cell1 {P : Program} {fn : Func} {p u : Tmp} {ty : TypeId} (h : fn.results = #[.cell p ty, .tmp u]) (tmps : Array Value) (w : World) (g : Nat) (e : TypeId) (cs : Array Value) (fr : Nat × Nat) (d : TypeDesc) (y : Value)
    (hy : tmps.getD u undef = y) (hp : tmps.getD p undef = .pointer (some ⟨g, 0, none⟩)) (hg : w.heap[g]? = some (.cells cs e fr))
    (hu : P.underlying ty = some d) (hd : (match d with | .struct _ | .array _ _ => true | _ => false) = true) (hi : (P.info? ty).map (·.size) = some cs.size) :
    (results fn tmps).run P w = .ok (.tuple #[.agg cs, y]) w := by
  subst hy
  have hp' : tmps[p]?.getD undef = .pointer (some ⟨g, 0, none⟩) := by simpa using hp
  simp [results, h, hp', asAddr, run_loadVar_row w g e ty cs fr d hg hu hd hi]
end Go.Proofs.YtknalgobndbngaaDoor
