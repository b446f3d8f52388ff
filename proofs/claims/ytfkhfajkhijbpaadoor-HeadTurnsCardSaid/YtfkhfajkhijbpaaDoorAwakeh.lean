/-
  Headers held against each other; the walks of the chapter's examples, of long.
-/
import Derived.Test.YtfkhfajkhijbpaaDoorRpack2
import Derived.Test.YtfkhfajkhijbpaaDoorLift
import Derived.Laws.StructEq
namespace Go.Proofs.YtfkhfajkhijbpaaDoor
open Go.RowKit
set_option maxRecDepth 10000

theorem eqF_int {P : Program} {W : World} (d : Nat) (xs ys : Array Value) (f : Field) (fs : List Field) (k : IntKind) (a b : Int) (hn : f.name ≠ "_") (hx : (part f.type xs f.offset).run P W = .ok (.int k a) W) (hy : (part f.type ys f.offset).run P W = .ok (.int k b) W) (ht : P.underlying f.type = some (.int k)) :
    (Op.eqFields (d + 1) xs ys (f :: fs)).run P W = if a = b then (Op.eqFields (d + 1) xs ys fs).run P W else .ok false W := by
  simp only [Op.eqFields, if_pos hn, Sem.run_bind, hx, hy, Result.andThen_ok, run_equalIn_int W d f.type k k a b ht]
  by_cases h : a = b
  · subst h
    simp
  · simp [h]
theorem eqF_nil {P : Program} {W : World} (d : Nat) (xs ys : Array Value) : (Op.eqFields d xs ys []).run P W = .ok true W := by simp [Op.eqFields]

theorem part_int {P : Program} {W : World} (t : TypeId) (xs : Array Value) (i : Nat) (v : Value) (ik : IntKind) (ht : P.underlying t = some (.int ik)) (hs : (P.info? t).map (·.size) = some 1) (hv : xs[i]? = some v) : (part t xs i).run P W = .ok v W := by
  obtain ⟨j, hj, hjs⟩ := Option.map_eq_some_iff.1 hs
  simp [part, isAgg, run_underlying ht, sizeOf, typeInfo, hj, hjs, hv]

theorem sizeInt : (Tryd.prog.info? 3).map (·.size) = some 1 := by kernel_rfl
theorem sizeU64 : (Tryd.prog.info? 22).map (·.size) = some 1 := by kernel_rfl
theorem headFields : (Tryd.prog.fieldsOf 24).toList = [{ name := "Kind", type := 3, offset := 0, embedded := false, tag := "", pkgPath := "", byteOffset := 0 }, { name := "From", type := 3, offset := 1, embedded := false, tag := "", pkgPath := "", byteOffset := 8 }, { name := "Operation", type := 3, offset := 2, embedded := false, tag := "", pkgPath := "", byteOffset := 16 }, { name := "View", type := 3, offset := 3, embedded := false, tag := "", pkgPath := "", byteOffset := 24 }, { name := "Op", type := 3, offset := 4, embedded := false, tag := "", pkgPath := "", byteOffset := 32 }, { name := "Commit", type := 3, offset := 5, embedded := false, tag := "", pkgPath := "", byteOffset := 40 }, { name := "Client", type := 3, offset := 6, embedded := false, tag := "", pkgPath := "", byteOffset := 48 }, { name := "Session", type := 3, offset := 7, embedded := false, tag := "", pkgPath := "", byteOffset := 56 }, { name := "Request", type := 3, offset := 8, embedded := false, tag := "", pkgPath := "", byteOffset := 64 }, { name := "A", type := 3, offset := 9, embedded := false, tag := "", pkgPath := "", byteOffset := 72 }, { name := "B", type := 3, offset := 10, embedded := false, tag := "", pkgPath := "", byteOffset := 80 }, { name := "Parent", type := 22, offset := 11, embedded := false, tag := "", pkgPath := "", byteOffset := 88 }] := by kernel_rfl

set_option maxHeartbeats 1000000 in
theorem eql_head (h g : Hd) (W : World) : (Op.equalIn 10000 24 (.agg h.cells) (.agg g.cells)).run Tryd.prog W = .ok (decide (h = g)) W := by
  rw [run_equalIn_struct W 9999 24 h.cells g.cells (by kernel_rfl) (by kernel_rfl), headFields]
  have x0 : h.cells[0]? = some (.int .i64 (h.kind : Int)) := rfl
  have y0 : g.cells[0]? = some (.int .i64 (g.kind : Int)) := rfl
  have x1 : h.cells[1]? = some (.int .i64 (h.frm : Int)) := rfl
  have y1 : g.cells[1]? = some (.int .i64 (g.frm : Int)) := rfl
  have x2 : h.cells[2]? = some (.int .i64 (h.oper : Int)) := rfl
  have y2 : g.cells[2]? = some (.int .i64 (g.oper : Int)) := rfl
  have x3 : h.cells[3]? = some (.int .i64 (h.view : Int)) := rfl
  have y3 : g.cells[3]? = some (.int .i64 (g.view : Int)) := rfl
  have x4 : h.cells[4]? = some (.int .i64 (h.opn : Int)) := rfl
  have y4 : g.cells[4]? = some (.int .i64 (g.opn : Int)) := rfl
  have x5 : h.cells[5]? = some (.int .i64 (h.commit : Int)) := rfl
  have y5 : g.cells[5]? = some (.int .i64 (g.commit : Int)) := rfl
  have x6 : h.cells[6]? = some (.int .i64 (h.client : Int)) := rfl
  have y6 : g.cells[6]? = some (.int .i64 (g.client : Int)) := rfl
  have x7 : h.cells[7]? = some (.int .i64 (h.session : Int)) := rfl
  have y7 : g.cells[7]? = some (.int .i64 (g.session : Int)) := rfl
  have x8 : h.cells[8]? = some (.int .i64 (h.request : Int)) := rfl
  have y8 : g.cells[8]? = some (.int .i64 (g.request : Int)) := rfl
  have x9 : h.cells[9]? = some (.int .i64 (h.a : Int)) := rfl
  have y9 : g.cells[9]? = some (.int .i64 (g.a : Int)) := rfl
  have x10 : h.cells[10]? = some (.int .i64 (h.b : Int)) := rfl
  have y10 : g.cells[10]? = some (.int .i64 (g.b : Int)) := rfl
  have x11 : h.cells[11]? = some (.int .u64 (h.parent : Int)) := rfl
  have y11 : g.cells[11]? = some (.int .u64 (g.parent : Int)) := rfl
  generalize h.cells = X at *
  generalize g.cells = Y at *
  rw [eqF_int (P := Tryd.prog) (W := W) 9998 X Y { name := "Kind", type := 3, offset := 0, embedded := false, tag := "", pkgPath := "", byteOffset := 0 } _ .i64 (h.kind : Int) (g.kind : Int) (by simp) (part_int 3 X 0 _ .i64 Tryd.underlying3 sizeInt x0) (part_int 3 Y 0 _ .i64 Tryd.underlying3 sizeInt y0) Tryd.underlying3]
  rw [eqF_int (P := Tryd.prog) (W := W) 9998 X Y { name := "From", type := 3, offset := 1, embedded := false, tag := "", pkgPath := "", byteOffset := 8 } _ .i64 (h.frm : Int) (g.frm : Int) (by simp) (part_int 3 X 1 _ .i64 Tryd.underlying3 sizeInt x1) (part_int 3 Y 1 _ .i64 Tryd.underlying3 sizeInt y1) Tryd.underlying3]
  rw [eqF_int (P := Tryd.prog) (W := W) 9998 X Y { name := "Operation", type := 3, offset := 2, embedded := false, tag := "", pkgPath := "", byteOffset := 16 } _ .i64 (h.oper : Int) (g.oper : Int) (by simp) (part_int 3 X 2 _ .i64 Tryd.underlying3 sizeInt x2) (part_int 3 Y 2 _ .i64 Tryd.underlying3 sizeInt y2) Tryd.underlying3]
  rw [eqF_int (P := Tryd.prog) (W := W) 9998 X Y { name := "View", type := 3, offset := 3, embedded := false, tag := "", pkgPath := "", byteOffset := 24 } _ .i64 (h.view : Int) (g.view : Int) (by simp) (part_int 3 X 3 _ .i64 Tryd.underlying3 sizeInt x3) (part_int 3 Y 3 _ .i64 Tryd.underlying3 sizeInt y3) Tryd.underlying3]
  rw [eqF_int (P := Tryd.prog) (W := W) 9998 X Y { name := "Op", type := 3, offset := 4, embedded := false, tag := "", pkgPath := "", byteOffset := 32 } _ .i64 (h.opn : Int) (g.opn : Int) (by simp) (part_int 3 X 4 _ .i64 Tryd.underlying3 sizeInt x4) (part_int 3 Y 4 _ .i64 Tryd.underlying3 sizeInt y4) Tryd.underlying3]
  rw [eqF_int (P := Tryd.prog) (W := W) 9998 X Y { name := "Commit", type := 3, offset := 5, embedded := false, tag := "", pkgPath := "", byteOffset := 40 } _ .i64 (h.commit : Int) (g.commit : Int) (by simp) (part_int 3 X 5 _ .i64 Tryd.underlying3 sizeInt x5) (part_int 3 Y 5 _ .i64 Tryd.underlying3 sizeInt y5) Tryd.underlying3]
  rw [eqF_int (P := Tryd.prog) (W := W) 9998 X Y { name := "Client", type := 3, offset := 6, embedded := false, tag := "", pkgPath := "", byteOffset := 48 } _ .i64 (h.client : Int) (g.client : Int) (by simp) (part_int 3 X 6 _ .i64 Tryd.underlying3 sizeInt x6) (part_int 3 Y 6 _ .i64 Tryd.underlying3 sizeInt y6) Tryd.underlying3]
  rw [eqF_int (P := Tryd.prog) (W := W) 9998 X Y { name := "Session", type := 3, offset := 7, embedded := false, tag := "", pkgPath := "", byteOffset := 56 } _ .i64 (h.session : Int) (g.session : Int) (by simp) (part_int 3 X 7 _ .i64 Tryd.underlying3 sizeInt x7) (part_int 3 Y 7 _ .i64 Tryd.underlying3 sizeInt y7) Tryd.underlying3]
  rw [eqF_int (P := Tryd.prog) (W := W) 9998 X Y { name := "Request", type := 3, offset := 8, embedded := false, tag := "", pkgPath := "", byteOffset := 64 } _ .i64 (h.request : Int) (g.request : Int) (by simp) (part_int 3 X 8 _ .i64 Tryd.underlying3 sizeInt x8) (part_int 3 Y 8 _ .i64 Tryd.underlying3 sizeInt y8) Tryd.underlying3]
  rw [eqF_int (P := Tryd.prog) (W := W) 9998 X Y { name := "A", type := 3, offset := 9, embedded := false, tag := "", pkgPath := "", byteOffset := 72 } _ .i64 (h.a : Int) (g.a : Int) (by simp) (part_int 3 X 9 _ .i64 Tryd.underlying3 sizeInt x9) (part_int 3 Y 9 _ .i64 Tryd.underlying3 sizeInt y9) Tryd.underlying3]
  rw [eqF_int (P := Tryd.prog) (W := W) 9998 X Y { name := "B", type := 3, offset := 10, embedded := false, tag := "", pkgPath := "", byteOffset := 80 } _ .i64 (h.b : Int) (g.b : Int) (by simp) (part_int 3 X 10 _ .i64 Tryd.underlying3 sizeInt x10) (part_int 3 Y 10 _ .i64 Tryd.underlying3 sizeInt y10) Tryd.underlying3]
  rw [eqF_int (P := Tryd.prog) (W := W) 9998 X Y { name := "Parent", type := 22, offset := 11, embedded := false, tag := "", pkgPath := "", byteOffset := 88 } _ .u64 (h.parent : Int) (g.parent : Int) (by simp) (part_int 22 X 11 _ .u64 Tryd.underlying22 sizeU64 x11) (part_int 22 Y 11 _ .u64 Tryd.underlying22 sizeU64 y11) Tryd.underlying22]
  rw [eqF_nil]
  clear x0 y0 x1 y1 x2 y2 x3 y3 x4 y4 x5 y5 x6 y6 x7 y7 x8 y8 x9 y9 x10 y10 x11 y11
  obtain ⟨kind1, frm1, oper1, view1, opn1, commit1, client1, session1, request1, a1, b1, parent1⟩ := h
  obtain ⟨kind2, frm2, oper2, view2, opn2, commit2, client2, session2, request2, a2, b2, parent2⟩ := g
  have hp : (parent1 = parent2) = ((parent1 : Int) = (parent2 : Int)) := by rw [Int.natCast_inj]
  simp only [Hd.mk.injEq, hp]
  by_cases c0 : kind1 = kind2
  case neg => simp [c0]
  by_cases c1 : frm1 = frm2
  case neg => simp [c1]
  by_cases c2 : oper1 = oper2
  case neg => simp [c2]
  by_cases c3 : view1 = view2
  case neg => simp [c3]
  by_cases c4 : opn1 = opn2
  case neg => simp [c4]
  by_cases c5 : commit1 = commit2
  case neg => simp [c5]
  by_cases c6 : client1 = client2
  case neg => simp [c6]
  by_cases c7 : session1 = session2
  case neg => simp [c7]
  by_cases c8 : request1 = request2
  case neg => simp [c8]
  by_cases c9 : a1 = a2
  case neg => simp [c9]
  by_cases c10 : b1 = b2
  case neg => simp [c10]
  by_cases c11 : (parent1 : Int) = (parent2 : Int)
  case neg => simp [c11]
  simp [*]

/-! ### the chapter's examples -/
def hdNeg : Hd := ⟨0, 0, 0, -1, 0, 0, 0, 0, 0, 0, 0, 0⟩
theorem fits0 : Fits hd0.nums := by decide
theorem fitsNeg : ¬ Fits hdNeg.nums := by decide

theorem pack0 : ∃ L : ByteArray, packS hd0 [] = (sb L, 0) ∧ L.size = 128 ∧ L.extract 4 8 = ⟨#[0, 0, 0, 0]⟩ := by
  have e := packS_yes (body := []) fits0 (by simp)
  have h128 := headB_len (full hd0 [])
  have hp := place (full hd0 []) [] 0 (by omega)
  rw [List.append_nil] at e hp
  refine ⟨⟨(headB (full hd0 [])).toArray⟩, by rw [sb_mk]; exact e, by rw [← sb_len, sb_mk, h128], ?_⟩
  have h0 : le ((full hd0 []).getD 0 0) (sz 0) = [0, 0, 0, 0] := by decide
  rw [h0] at hp
  have hx : sb ((⟨(headB (full hd0 [])).toArray⟩ : ByteArray).extract 4 8) = [0, 0, 0, 0] := by
    rw [← hp]
    simp [sb, sz, sizes, off]
  rw [← mk_sb (ByteArray.extract _ 4 8), hx]

end Go.Proofs.YtfkhfajkhijbpaaDoor
