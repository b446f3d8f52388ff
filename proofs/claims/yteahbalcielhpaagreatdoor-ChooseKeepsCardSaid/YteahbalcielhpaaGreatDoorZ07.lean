/-
  The walk of Unpack's region that reads the header.
-/
import Derived.Test.YteahbalcielhpaaGreatDoorZ05
import Derived.Deep.RegionHeld
import Derived.Deep.CutRange
import Derived.Deep.DeepCutAuto
import Derived.Laws.StructEq
import Derived.BigFrame
import Derived.Laws.IdiomCopy
import Derived.Test.YteahbalcielhpaaGreatDoorZ03
namespace Go.Proofs.YteahbalcielhpaaGreatDoor
open Go.RowKit
set_option maxRecDepth 10000

/-- a header, a text and an error's number -/
def HE (w : World) (r : Hd × List UInt8 × Int) (e : Ending) (w' : World) : Prop := e = .returned (.tuple #[r.1.val, .string ⟨r.2.1.toArray⟩, .int .i64 r.2.2]) ∧ Below w.heap.size w w'
theorem hcells_size (h : Hd) : (Tryz.prog.info? 79).map (·.size) = some h.cells.size := by
  show _ = some 12
  kernel_rfl
theorem Row.range {w : World} {g : Nat} {e : TypeId} {cs : List Value} (h : Row w g e cs) : w.rangeAt g 0 cs := fun j v hv => by
  rw [Nat.zero_add, h.cell]
  exact hv
theorem Row.arr {w : World} {g : Nat} {e : TypeId} {cs : Array Value} (h : Row w g e cs.toList) : w.heap[g]? = some (.cells cs e (0, 0)) := by simpa [Row] using h
end Go.Proofs.YteahbalcielhpaaGreatDoor
/-
  The walk of the document's Pack, whole; both Packs and both Rights of a header as one value.
-/
namespace Go.Proofs.YteahbalcielhpaaGreatDoor
open Go.RowKit
set_option maxRecDepth 10000

set_option maxHeartbeats 1000000 in
theorem rpack_form (C : Array Value) (body : ByteArray) (w : World) (HR : Hid (∀ W, Calls Tryz.prog 96 #[.agg C] W (VE W (.bool false)))) (hsz : (Tryz.prog.info? 79).map (·.size) = some C.size) : Calls Tryz.prog 90 #[.agg C, .string body] w (SN w ([], 4)) := by
  have HSZ := hid hsz
  clear hsz
  go_enter Tryz.func90, Tryz.ntmps90
  go_wp2_with (first
    | (refine wpList_load_row rfl 79 (.tmp 2) rfl w.heap.size rfl 79 C (0, 0) _ (heap_alloc_new _ _) Tryz.underlying79 rfl HSZ.out ?_)
    | (go_at_call 96; refine (HR.out _).mono ?_; rintro e w1 ⟨rfl, hb1⟩))
  go_ret2
  exact ⟨rfl, ((Below.refl _ _).alloc (Nat.le_refl _) _).trans (hb1.mono (by simp))⟩
set_option maxHeartbeats 1000000 in
theorem rpack_long (C : Array Value) (body : ByteArray) (w : World) (HR : Hid (∀ W, Calls Tryz.prog 96 #[.agg C] W (VE W (.bool true)))) (hsz : (Tryz.prog.info? 79).map (·.size) = some C.size) (hlong : 3968 < (body.size : Int)) : Calls Tryz.prog 90 #[.agg C, .string body] w (SN w ([], 5)) := by
  have HSZ := hid hsz
  clear hsz
  go_enter Tryz.func90, Tryz.ntmps90
  go_wp2_with (first
    | (refine wpList_load_row rfl 79 (.tmp 2) rfl w.heap.size rfl 79 C (0, 0) _ (heap_alloc_new _ _) Tryz.underlying79 rfl HSZ.out ?_)
    | (go_at_call 96; refine (HR.out _).mono ?_; rintro e w1 ⟨rfl, hb1⟩))
  go_ret2
  exact ⟨rfl, ((Below.refl _ _).alloc (Nat.le_refl _) _).trans (hb1.mono (by simp))⟩
theorem rpack_any (h : Hd) (hh : h.fits) (body : ByteArray) (w : World) : Calls Tryz.prog 90 #[h.val, .string body] w (SN w (packS h (sb body))) := by
  have hl := sb_len body
  have hr := right_fits h hh
  unfold packS
  by_cases hfit : Fits h.nums
  · rw [if_neg (by simpa using hfit)]
    rw [decide_eq_true hfit] at hr
    by_cases hlong : 3968 < (sb body).length
    · rw [if_pos hlong]
      exact rpack_long h.cells body w (hid fun W => by have := rright_any h W; rw [hr] at this; exact this) (hcells_size h) (by omega)
    · rw [if_neg hlong]
      exact rpack_ok h body w hfit hr (by omega)
  · rw [if_pos hfit]
    rw [decide_eq_false hfit] at hr
    exact rpack_form h.cells body w (hid fun W => by have := rright_any h W; rw [hr] at this; exact this) (hcells_size h)
end Go.Proofs.YteahbalcielhpaaGreatDoor
/-
  Small words that the texts of this seat share: structs held against each other, loaded, stored, told.
-/
namespace Go.Proofs.YteahbalcielhpaaGreatDoor
open Go.RowKit
set_option maxRecDepth 10000

theorem eqF_int {P : Program} {W : World} (d : Nat) (xs ys : Array Value) (f : Field) (fs : List Field) (k : IntKind) (a b : Int) (hn : f.name ≠ "_") (hx : (part f.type xs f.offset).run P W = .ok (.int k a) W) (hy : (part f.type ys f.offset).run P W = .ok (.int k b) W) (ht : P.underlying f.type = some (.int k)) :
    (Op.eqFields (d + 1) xs ys (f :: fs)).run P W = if a = b then (Op.eqFields (d + 1) xs ys fs).run P W else .ok false W := by
  simp only [Op.eqFields, if_pos hn, Sem.run_bind, hx, hy, Result.andThen_ok, run_equalIn_int W d f.type k k a b ht]
  by_cases h : a = b
  · subst h
    simp
  · simp [h]
theorem eqF_nil {P : Program} {W : World} (d : Nat) (xs ys : Array Value) : (Op.eqFields d xs ys []).run P W = .ok true W := by simp [Op.eqFields]
theorem part_int {P : Program} {W : World} (t : TypeId) (xs : Array Value) (i : Nat) (v : Value) (ik : IntKind) (ht : P.underlying t = some (.int ik)) (hs : (P.info? t).map (·.size) = some 1) (hv : xs[i]? = some v) : (part t xs i).run P W = .ok v W := by
  obtain ⟨j, hj, hjs⟩ := Option.map_eq_some_iff.1 hs
  simp [part, isAgg, run_underlying ht, sizeOf, typeInfo, hj, hjs, hv]
theorem sizeInt : (Tryz.prog.info? 3).map (·.size) = some 1 := by kernel_rfl
theorem sizeU64 : (Tryz.prog.info? 25).map (·.size) = some 1 := by kernel_rfl
theorem part_str {P : Program} {W : World} (t : TypeId) (xs : Array Value) (i : Nat) (v : Value) (ht : P.underlying t = some .string) (hs : (P.info? t).map (·.size) = some 1) (hv : xs[i]? = some v) : (part t xs i).run P W = .ok v W := by
  obtain ⟨j, hj, hjs⟩ := Option.map_eq_some_iff.1 hs
  simp [part, isAgg, run_underlying ht, sizeOf, typeInfo, hj, hjs, hv]
theorem sizeStr : (Tryz.prog.info? 9).map (·.size) = some 1 := by kernel_rfl
theorem eqF_strs {P : Program} {W : World} (d : Nat) (xs ys : Array Value) (f : Field) (fs : List Field) (a b : ByteArray) (hn : f.name ≠ "_") (hx : (part f.type xs f.offset).run P W = .ok (.string a) W) (hy : (part f.type ys f.offset).run P W = .ok (.string b) W) (ht : P.underlying f.type = some .string) :
    (Op.eqFields (d + 1) xs ys (f :: fs)).run P W = if a = b then (Op.eqFields (d + 1) xs ys fs).run P W else .ok false W := by
  simp only [Op.eqFields, if_pos hn, Sem.run_bind, hx, hy, Result.andThen_ok, run_equalIn_string W d f.type a b ht]
  by_cases h : a = b
  · subst h
    simp
  · have h2 := str_ne h
    simp [h, h2]
theorem Row.at_ {w : World} {g : Nat} {e : TypeId} {cs : List Value} (h : Row w g e cs) (i : Nat) (u : Value) (hu : cs[i]? = some u) : w.cell? ⟨g, i, none⟩ = some u := (h.cell i).trans hu
/-- a load under a guard that says yes -/
theorem wpl_load_want {P : Program} {ops : Array Oper} {rest : List Oper} {o : Oper} {a : Act} {w : World} {Q : Exit → Act → World → Prop} (hw : Region.wanted o (yielded ops a.tmps) = true) (ty : TypeId) (x : Operand) (ho : o.op = .load ty x)
    (g : Nat) (hx : a.eval x = .pointer (some ⟨g, 0, none⟩)) (t : TypeId) (cs : Array Value) (fr : Nat × Nat) (d : TypeDesc) (hg : w.heap[g]? = some (.cells cs t fr))
    (hu : P.underlying ty = some d) (hd : (match d with | .struct _ | .array _ _ => true | _ => false) = true) (hi : (P.info? ty).map (·.size) = some cs.size)
    (h : wpList P ops Q rest (a.put o.dst (.agg cs)) w) : wpList P ops Q (o :: rest) a w :=
  BigFrame.wpList_want hw fun _ hK => wp_load_row ty x ho g hx t cs fr d hg hu hd hi (hK _ _ h)
/-- a store of a struct -/
theorem wpl_store_st {P : Program} {ops : Array Oper} {rest : List Oper} {o : Oper} {a : Act} {w : World} {Q : Exit → Act → World → Prop} (hgd : o.guard = none) {T : TypeId} (x y : Operand) (ho : o.op = .store T x y) {n : Nat} (hn : (P.info? T).map (·.size) = some n)
    (g : Nat) (cs0 cs : Array Value) (hx : a.eval x = .pointer (some ⟨g, 0, none⟩)) (hy : a.eval y = .agg cs) (hrow : Row w g T cs0.toList)
    (hK : ∀ w', Row w' g T cs.toList → w.grownBy w' (some g) → wpList P ops Q rest (a.put o.dst undef) w')
    (h0 : Hid (cs0.size = n)) (h1 : Hid (cs.size = n)) (hone : Hid (cs.all (·.oneCell') = true)) : wpList P ops Q (o :: rest) a w :=
  wpList_plain hgd fun _ hK' => wp_store_row T x y ho g cs hx hy T cs0 hrow.arr (by rw [hn, h1.out]) (by simp [h0.out, h1.out]) (by simpa using hone.out)
    (hK' _ _ (hK _ (by
      have := setRow_heap w g cs0 cs T (0, 0) hrow.arr
      simpa [Row] using this) (grownBy_setRow w g _)))
/-- a store of one cell -/
theorem wpl_store_c {P : Program} {ops : Array Oper} {rest : List Oper} {o : Oper} {a : Act} {w : World} {Q : Exit → Act → World → Prop} (hgd : o.guard = none) (T : TypeId) (x y : Operand) (ho : o.op = .store T x y)
    (g i : Nat) (v : Value) (hx : a.eval x = .pointer (some ⟨g, i, none⟩)) (hy : a.eval y = v) {E : TypeId} {xs : List Value} (hrow : Row w g E xs) (hs : (P.info? T).map (·.size) = some 1)
    (hK : ∀ w', Row w' g E (xs.set i v) → w.grownBy w' (some g) → wpList P ops Q rest (a.put o.dst undef) w')
    (hi : Hid (i < xs.length)) (hone : Hid (v.oneCell' = true)) : wpList P ops Q (o :: rest) a w :=
  wpList_plain hgd fun _ hK' => by
    have h1 := run_storeCells_cells (P := P) g i [v] 0 w (fun j hj => by
      have : j = 0 := by simpa using hj
      subst this
      show (w.cell? ⟨g, i, none⟩).isSome = true
      rw [hrow.cell, List.getElem?_eq_getElem hi.out]; rfl) (fun j hj => hrow.frozen _) (fun u hu => by rw [List.mem_singleton.1 hu]; exact hone.out)
    have hc : v.cells = #[v] := by
      have := hone.out
      cases v <;> first | rfl | cases this
    have hrun : (storeVar T ⟨g, i, none⟩ v).run P w = .ok () (w.setCell ⟨g, i, none⟩ v) := by
      obtain ⟨j, hj, hjs⟩ := Option.map_eq_some_iff.1 hs
      simp only [Nat.add_zero] at h1
      simp [storeVar, sizeOf, typeInfo, hj, hjs, hc, h1]
      rfl
    unfold Oper.wp execOp
    simp only [ho, hx, hy, Instr.storeAt, Instr.sureAddr, Sem.run_bind, Sem.run_pure, Result.andThen_ok, hrun]
    exact hK' _ _ (hK _ (hrow.set_ i v) ⟨rfl, rfl, rfl, by simp, fun k _ hr => heap_setCell_other w ⟨g, i, none⟩ k v (by intro e; exact hr (by rw [e]))⟩)
theorem results_cell1 {P : Program} {fn : Func} {p u : Tmp} {ty : TypeId} (h : fn.results = #[.cell p ty, .tmp u]) (tmps : Array Value) (w : World) (g : Nat) (e : TypeId) (cs : Array Value) (fr : Nat × Nat) (d : TypeDesc) (y : Value)
    (hy : tmps.getD u undef = y) (hp : tmps.getD p undef = .pointer (some ⟨g, 0, none⟩)) (hg : w.heap[g]? = some (.cells cs e fr))
    (hu : P.underlying ty = some d) (hd : (match d with | .struct _ | .array _ _ => true | _ => false) = true) (hi : (P.info? ty).map (·.size) = some cs.size) :
    (results fn tmps).run P w = .ok (.tuple #[.agg cs, y]) w := by
  subst hy
  have hp' : tmps[p]?.getD undef = .pointer (some ⟨g, 0, none⟩) := by simpa using hp
  simp [results, h, hp', asAddr, run_loadVar_row w g e ty cs fr d hg hu hd hi]
end Go.Proofs.YteahbalcielhpaaGreatDoor
/-
  Entries and marks in plain words and in memory; an entry that may be.
-/
namespace Go.Proofs.YteahbalcielhpaaGreatDoor
open Go.RowKit
set_option maxRecDepth 10000

/-- an entry -/
structure En where
  view : Int
  opn : Int
  under : Int
  parent : Nat
  client : Int
  session : Int
  request : Int
  oper : Int
  body : ByteArray
def En.cells (e : En) : Array Value := #[.int .i64 e.view, .int .i64 e.opn, .int .i64 e.under, .int .u64 (e.parent : Int), .int .i64 e.client, .int .i64 e.session, .int .i64 e.request, .int .i64 e.oper, .string e.body]
def En.val (e : En) : Value := .agg e.cells
def en0 : En := ⟨0, 0, 0, 0, 0, 0, 0, 0, ⟨#[]⟩⟩
/-- an entry of the machine's -/
def En.fits (e : En) : Prop := (In64 e.view ∧ In64 e.opn ∧ In64 e.under ∧ In64 e.client) ∧ (In64 e.session ∧ In64 e.request ∧ In64 e.oper) ∧ e.parent < 18446744073709551616
/-- a mark -/
structure Mk where
  opn : Int
  view : Int
  sum : Nat
deriving DecidableEq
def Mk.cells (m : Mk) : Array Value := #[.int .i64 m.opn, .int .i64 m.view, .int .u64 (m.sum : Int)]
def Mk.val (m : Mk) : Value := .agg m.cells
def mk0 : Mk := ⟨0, 0, 0⟩
def Mk.fits (m : Mk) : Prop := In64 m.opn ∧ In64 m.view ∧ m.sum < 18446744073709551616
theorem ecells_one (e : En) : e.cells.all (·.oneCell') = true := by simp [En.cells, Value.oneCell']
theorem ecells_size (e : En) : (Tryz.prog.info? 35).map (·.size) = some e.cells.size := by
  show _ = some 9
  kernel_rfl
theorem esize : (Tryz.prog.info? 35).map (·.size) = some 9 := by kernel_rfl
theorem mcells_one (m : Mk) : m.cells.all (·.oneCell') = true := by simp [Mk.cells, Value.oneCell']
theorem msize : (Tryz.prog.info? 27).map (·.size) = some 3 := by kernel_rfl
/-! ### held against each other -/
theorem entryFields : (Tryz.prog.fieldsOf 35).toList = [{ name := "View", type := 3, offset := 0, embedded := false, tag := "", pkgPath := "", byteOffset := 0 }, { name := "Op", type := 3, offset := 1, embedded := false, tag := "", pkgPath := "", byteOffset := 8 }, { name := "Under", type := 3, offset := 2, embedded := false, tag := "", pkgPath := "", byteOffset := 16 }, { name := "Parent", type := 25, offset := 3, embedded := false, tag := "", pkgPath := "", byteOffset := 24 }, { name := "Client", type := 3, offset := 4, embedded := false, tag := "", pkgPath := "", byteOffset := 32 }, { name := "Session", type := 3, offset := 5, embedded := false, tag := "", pkgPath := "", byteOffset := 40 }, { name := "Request", type := 3, offset := 6, embedded := false, tag := "", pkgPath := "", byteOffset := 48 }, { name := "Operation", type := 3, offset := 7, embedded := false, tag := "", pkgPath := "", byteOffset := 56 }, { name := "Body", type := 9, offset := 8, embedded := false, tag := "", pkgPath := "", byteOffset := 64 }] := by kernel_rfl
theorem markFields : (Tryz.prog.fieldsOf 27).toList = [{ name := "Op", type := 3, offset := 0, embedded := false, tag := "", pkgPath := "", byteOffset := 0 }, { name := "View", type := 3, offset := 1, embedded := false, tag := "", pkgPath := "", byteOffset := 8 }, { name := "Sum", type := 25, offset := 2, embedded := false, tag := "", pkgPath := "", byteOffset := 16 }] := by kernel_rfl
theorem eqMk (x y : Mk) (W : World) : (Op.equalIn 10000 27 (.agg x.cells) (.agg y.cells)).run Tryz.prog W = .ok (decide (x = y)) W := by
  rw [run_equalIn_struct W 9999 27 x.cells y.cells (by kernel_rfl) (by kernel_rfl), markFields]
  have x0 : x.cells[0]? = some (.int .i64 x.opn) := rfl
  have x1 : x.cells[1]? = some (.int .i64 x.view) := rfl
  have x2 : x.cells[2]? = some (.int .u64 (x.sum : Int)) := rfl
  have y0 : y.cells[0]? = some (.int .i64 y.opn) := rfl
  have y1 : y.cells[1]? = some (.int .i64 y.view) := rfl
  have y2 : y.cells[2]? = some (.int .u64 (y.sum : Int)) := rfl
  generalize x.cells = X at *
  generalize y.cells = Y at *
  rw [eqF_int (P := Tryz.prog) (W := W) 9998 X Y { name := "Op", type := 3, offset := 0, embedded := false, tag := "", pkgPath := "", byteOffset := 0 } _ .i64 x.opn y.opn (by simp) (part_int 3 X 0 _ .i64 Tryz.underlying3 sizeInt x0) (part_int 3 Y 0 _ .i64 Tryz.underlying3 sizeInt y0) Tryz.underlying3]
  rw [eqF_int (P := Tryz.prog) (W := W) 9998 X Y { name := "View", type := 3, offset := 1, embedded := false, tag := "", pkgPath := "", byteOffset := 8 } _ .i64 x.view y.view (by simp) (part_int 3 X 1 _ .i64 Tryz.underlying3 sizeInt x1) (part_int 3 Y 1 _ .i64 Tryz.underlying3 sizeInt y1) Tryz.underlying3]
  rw [eqF_int (P := Tryz.prog) (W := W) 9998 X Y { name := "Sum", type := 25, offset := 2, embedded := false, tag := "", pkgPath := "", byteOffset := 16 } _ .u64 (x.sum : Int) (y.sum : Int) (by simp) (part_int 25 X 2 _ .u64 Tryz.underlying25 sizeU64 x2) (part_int 25 Y 2 _ .u64 Tryz.underlying25 sizeU64 y2) Tryz.underlying25]
  rw [eqF_nil]
  obtain ⟨o1, v1, s1⟩ := x
  obtain ⟨o2, v2, s2⟩ := y
  simp only [Mk.mk.injEq]
  by_cases c0 : o1 = o2
  case neg => simp [c0]
  by_cases c1 : v1 = v2
  case neg => simp [c1]
  by_cases c2 : (s1 : Int) = (s2 : Int)
  case neg => simp [c2]; omega
  simp [*]
  omega
theorem egEn : Tryz.prog.eqGuardType Tryz.prog.depth 35 = false := by kernel_rfl
theorem egMk : Tryz.prog.eqGuardType Tryz.prog.depth 27 = false := by kernel_rfl
section
variable {ops : Array Oper} {rest : List Oper} {o : Oper} {a : Act} {w : World} {Q : Exit → Act → World → Prop}
theorem wpl_eqm (hw : Region.wanted o (yielded ops a.tmps) = true) (s t : Mk) (b : Bool) (x y : Operand) (ty : TypeId) (ho : o.op = .binOp .eql 27 x y ty)
    (hx : a.eval x = .agg s.cells) (hy : a.eval y = .agg t.cells) (hb : Hid (decide (s = t) = b)) (h : wpList Tryz.prog ops Q rest (a.put o.dst (.bool b)) w) : wpList Tryz.prog ops Q (o :: rest) a w := by
  refine BigFrame.wpList_want hw fun K hK => ?_
  have hEQ := eqMk s t w
  have hEG := egMk
  rw [hb.out] at hEQ
  generalize s.cells = Z at *
  generalize t.cells = Y at *
  unfold Oper.wp execOp
  simp [ho, hx, hy, eqGuard, hEG, binOp, Op.equal, Op.maxDepth, hEQ, Result.andThen]
  exact hK _ _ h
end

/-! ### an entry that may be -/
/-- its numbers and its body are within their bounds -/
def Rt (e : En) : Prop := (1 ≤ e.opn ∧ e.opn ≤ 72057594037927935) ∧ (1 ≤ e.client ∧ e.client ≤ 72057594037927935) ∧ (0 ≤ e.view ∧ e.view ≤ 72057594037927935) ∧ (0 ≤ e.under ∧ e.under ≤ 72057594037927935) ∧
  (0 ≤ e.session ∧ e.session ≤ 72057594037927935) ∧ (0 ≤ e.request ∧ e.request ≤ 72057594037927935) ∧ (1 ≤ e.oper ∧ e.oper ≤ 255) ∧ e.under ≤ e.view ∧ (e.body.size : Int) ≤ 200
instance (e : En) : Decidable (Rt e) := by unfold Rt; infer_instance
/-- what Follows answers -/
def Fol (m : Mk) (e : En) : Prop := Rt e ∧ e.opn - 1 = m.opn ∧ e.under = m.view ∧ e.parent = m.sum
instance (m : Mk) (e : En) : Decidable (Fol m e) := by unfold Fol; infer_instance
/-- what Next answers -/
def nextS9 (m : Mk) (e : En) : En := ⟨e.view, if 0 ≤ m.opn ∧ m.opn ≤ 72057594037927934 then m.opn + 1 else e.opn, m.view, m.sum, e.client, e.session, e.request, e.oper, e.body⟩
/-- ints as values -/
def ivs (l : List Int) : List Value := l.map fun n => .int .i64 n
/-- all within -/
def wi (lo hi : Int) (l : List Int) : Bool := l.all fun n => decide (lo ≤ n ∧ n ≤ hi)
theorem wi_snoc (lo hi : Int) (l : List Int) (k : Nat) (h : k < l.length) (ht : wi lo hi (l.take k) = true) (hk : lo ≤ l[k] ∧ l[k] ≤ hi) : wi lo hi (l.take (k + 1)) = true := by
  rw [List.take_succ_eq_append_getElem h]
  unfold wi at ht ⊢
  rw [List.all_append, ht]
  simp [hk]
theorem wi_not (lo hi : Int) (l : List Int) (k : Nat) (h : k < l.length) (hk : ¬ (lo ≤ l[k] ∧ l[k] ≤ hi)) : wi lo hi l = false := by
  rw [← Bool.not_eq_true]
  intro e
  have := List.all_eq_true.1 e l[k] (List.getElem_mem h)
  exact hk (by simpa using this)
end Go.Proofs.YteahbalcielhpaaGreatDoor
/-
  The walks of package entry's within, Right.
-/
namespace Go.Proofs.YteahbalcielhpaaGreatDoor
open Go.RowKit
set_option maxRecDepth 10000

theorem ivs_len (l : List Int) : (ivs l).length = l.length := by simp [ivs]
set_option maxHeartbeats 1000000 in
theorem within_any (lo hi : Int) (A : Option Addr) (c B : Nat) (l : List Int) (w : World) (hr : Rd w B A (ivs l)) (hl : l.length ≤ 1000) (hpos : 0 < l.length) (hc : l.length ≤ c) :
    Calls Tryz.prog 44 #[.int .i64 lo, .int .i64 hi, .slice A l.length c] w fun e w' => e = .returned (.bool (wi lo hi l)) ∧ w = w' := by
  obtain ⟨g, o, rfl, -, hcell⟩ := hr (by intro e; have := ivs_len l; rw [e] at this; simp at this; omega)
  have HC : Hid (∀ k, (h : k < l.length) → w.cell? ⟨g, o + k, none⟩ = some (.int .i64 l[k])) := hid fun k h => hcell k _ (by simp [ivs, h])
  obtain ⟨n, hn⟩ : ∃ n, n = l.length := ⟨_, rfl⟩
  rw [← hn] at hl hpos hc ⊢
  have HN := hid hn
  clear hr hcell hn
  go_enter Tryz.func44, Tryz.ntmps44
  go_wp2_with fail
  go_loop [11] (fun i => ∃ k : Nat, k ≤ n ∧ i = .int .i64 k ∧ Hid (wi lo hi (l.take k) = true)) (fun i => n - (intOf i).toNat)
  case atStart => exact ⟨0, by omega, rfl, hid rfl⟩
  case round =>
    obtain ⟨k, hk, rfl, hpast⟩ := hrel
    by_cases hlt : k < n
    · have hkl : k < l.length := by rw [← HN.out]; exact hlt
      have hce := HC.out k hkl
      have HS := hid (wi_snoc lo hi l k hkl hpast.out)
      have HX := hid (wi_not lo hi l k hkl)
      generalize l[k] = x at hce HS HX
      by_cases h1 : x < lo
      · go_wp2_with fail
        go_ret
        rw [HX.out (by omega)]
        exact ⟨rfl, rfl⟩
      · by_cases h2 : hi < x
        · go_wp2_with fail
          go_ret
          rw [HX.out (by omega)]
          exact ⟨rfl, rfl⟩
        · go_wp2_with fail
          go_round
          case rel => exact ⟨k + 1, by omega, by go_num, hid (HS.out (by omega))⟩
          case measure => simp [intOf]; omega
    · obtain rfl : k = n := by omega
      go_wp2_with fail
      go_ret
      have hy := hpast.out
      rw [List.take_of_length_le (by rw [HN.out]; exact Nat.le_refl _)] at hy
      rw [hy]
      exact ⟨rfl, rfl⟩
/-- over a list that was just laid -/
theorem wiA (lo hi : Int) (l : List Int) (cs : Array Value) (n : Nat) (hl : l.length ≤ 1000) (hpos : 0 < l.length) (hcs : cs.toList = ivs l) (hn : l.length = n) (W : World) (g : Nat) (hg : g = W.heap.size) :
    Calls Tryz.prog 44 #[.int .i64 lo, .int .i64 hi, .slice (some ⟨g, 0, none⟩) n n] (W.alloc (.cells cs 3)) fun e w' => e = .returned (.bool (wi lo hi l)) ∧ (W.alloc (.cells cs 3)) = w' := by
  subst hg hn
  have := Row.new W 3 cs
  rw [hcs] at this
  exact within_any lo hi _ _ (W.heap.size + 1) l _ (this.rd (by omega)) hl hpos (Nat.le_refl _)
theorem rt_iff (e : En) : Rt e ↔ (wi 1 72057594037927935 [e.opn, e.client] = true ∧ wi 0 72057594037927935 [e.view, e.under, e.session, e.request] = true ∧ wi 1 255 [e.oper] = true ∧ e.under ≤ e.view ∧ (e.body.size : Int) ≤ 200) := by
  unfold Rt wi
  simp
  constructor
  · rintro ⟨⟨a1, a2⟩, ⟨b1, b2⟩, ⟨c1, c2⟩, ⟨d1, d2⟩, ⟨e1, e2⟩, ⟨f1, f2⟩, ⟨g1, g2⟩, h1, h2⟩
    exact ⟨⟨⟨a1, a2⟩, b1, b2⟩, ⟨⟨c1, c2⟩, ⟨d1, d2⟩, ⟨e1, e2⟩, f1, f2⟩, ⟨g1, g2⟩, h1, h2⟩
  · rintro ⟨⟨⟨a1, a2⟩, b1, b2⟩, ⟨⟨c1, c2⟩, ⟨d1, d2⟩, ⟨e1, e2⟩, f1, f2⟩, ⟨g1, g2⟩, h1, h2⟩
    exact ⟨⟨a1, a2⟩, ⟨b1, b2⟩, ⟨c1, c2⟩, ⟨d1, d2⟩, ⟨e1, e2⟩, ⟨f1, f2⟩, ⟨g1, g2⟩, h1, h2⟩
set_option maxHeartbeats 2000000 in
theorem eright_any (e : En) (w : World) : Calls Tryz.prog 25 #[e.val] w (VE w (.bool (decide (Rt e)))) := by
  have hb : decide (Rt e) = (wi 1 72057594037927935 [e.opn, e.client] && wi 0 72057594037927935 [e.view, e.under, e.session, e.request] && wi 1 255 [e.oper] && decide (e.under ≤ e.view) && decide ((e.body.size : Int) ≤ 200)) := by
    rw [Bool.eq_iff_iff, decide_eq_true_iff, rt_iff e]
    simp only [Bool.and_eq_true, decide_eq_true_eq, and_assoc]
  rw [hb]
  clear hb
  have HW1 := hid (wiA 1 72057594037927935 [e.opn, e.client] #[.int .i64 e.opn, .int .i64 e.client] 2 (by simp) (by simp) rfl rfl)
  have HW2 := hid (wiA 0 72057594037927935 [e.view, e.under, e.session, e.request] #[.int .i64 e.view, .int .i64 e.under, .int .i64 e.session, .int .i64 e.request] 4 (by simp) (by simp) rfl rfl)
  have HW3 := hid (wiA 1 255 [e.oper] #[.int .i64 e.oper] 1 (by simp) (by simp) rfl rfl)
  generalize wi 1 72057594037927935 [e.opn, e.client] = b1 at *
  generalize wi 0 72057594037927935 [e.view, e.under, e.session, e.request] = b2 at *
  generalize wi 1 255 [e.oper] = b3 at *
  obtain ⟨view, opn, under, parent, client, session, request, oper, body⟩ := e
  show Calls Tryz.prog 25 #[.agg #[.int .i64 view, .int .i64 opn, .int .i64 under, .int .u64 (parent : Int), .int .i64 client, .int .i64 session, .int .i64 request, .int .i64 oper, .string body]] w (VE w (.bool (b1 && b2 && b3 && decide (under ≤ view) && decide ((body.size : Int) ≤ 200))))
  go_enter Tryz.func25, Tryz.ntmps25
  go_wp2_with (first
    | (go_at_call 44; refine (HW1.out _ _ (by simp)).mono ?_; rintro e w' ⟨rfl, rfl⟩; clear HW1)
    | (go_at_call 44; refine (HW2.out _ _ (by simp)).mono ?_; rintro e w' ⟨rfl, rfl⟩; clear HW2)
    | (go_at_call 44; refine (HW3.out _ _ (by simp)).mono ?_; rintro e w' ⟨rfl, rfl⟩; clear HW3))
  all_goals (go_ret; refine ⟨by simp [*] <;> omega, ?_⟩; repeat' first | exact Below.refl _ _ | refine Below.alloc ?_ (by simp <;> omega) _)
end Go.Proofs.YteahbalcielhpaaGreatDoor
/-
  The walks of package entry's Follows, of long.
-/
namespace Go.Proofs.YteahbalcielhpaaGreatDoor
open Go.RowKit
set_option maxRecDepth 10000

set_option maxHeartbeats 1000000 in
theorem efol_yes (view opn under : Int) (parent : Nat) (client session request oper : Int) (body : ByteArray) (mo mv : Int) (ms : Nat) (w : World) (h1 : 1 ≤ opn) (h2 : opn ≤ 72057594037927935)
    (HR : Hid (∀ W : World, Calls Tryz.prog 25 #[.agg #[.int .i64 view, .int .i64 opn, .int .i64 under, .int .u64 (parent : Int), .int .i64 client, .int .i64 session, .int .i64 request, .int .i64 oper, .string body]] W (VE W (.bool true)))) :
    Calls Tryz.prog 10 #[.agg #[.int .i64 mo, .int .i64 mv, .int .u64 (ms : Int)], .agg #[.int .i64 view, .int .i64 opn, .int .i64 under, .int .u64 (parent : Int), .int .i64 client, .int .i64 session, .int .i64 request, .int .i64 oper, .string body]] w (VE w (.bool (decide (opn - 1 = mo) && decide (under = mv) && decide ((parent : Int) = ms)))) := by
  obtain ⟨W0, hW0⟩ : ∃ W0, W0 = (w.alloc (.cells #[.int .i64 mo, .int .i64 mv, .int .u64 (ms : Int)] 27)).alloc (.cells #[.int .i64 view, .int .i64 opn, .int .i64 under, .int .u64 (parent : Int), .int .i64 client, .int .i64 session, .int .i64 request, .int .i64 oper, .string body] 35) := ⟨_, rfl⟩
  have HB0 : Hid (Below w.heap.size w W0) := hid (by rw [hW0]; repeat' first | exact Below.refl _ _ | refine Below.alloc ?_ (by simp <;> omega) _)
  have HM0 : Hid (Row W0 w.heap.size 27 (#[.int .i64 mo, .int .i64 mv, .int .u64 (ms : Int)] : Array Value).toList) := hid (by rw [hW0]; exact (Row.new _ _ _).alloc _)
  have HE0 : Hid (Row W0 (w.heap.size + 1) 35 (#[.int .i64 view, .int .i64 opn, .int .i64 under, .int .u64 (parent : Int), .int .i64 client, .int .i64 session, .int .i64 request, .int .i64 oper, .string body] : Array Value).toList) := hid (by
    rw [hW0]
    have := Row.new (w.alloc (.cells #[.int .i64 mo, .int .i64 mv, .int .u64 (ms : Int)] 27)) 35 #[.int .i64 view, .int .i64 opn, .int .i64 under, .int .u64 (parent : Int), .int .i64 client, .int .i64 session, .int .i64 request, .int .i64 oper, .string body]
    simpa using this)
  have HZ := hid esize
  have HW0 := hid hW0
  clear hW0
  go_enter Tryz.func10, Tryz.ntmps10
  go_wp2_with (first
    | (rw [← HW0.out]; refine wpList_load_row rfl 35 (.tmp 3) rfl (w.heap.size + 1) rfl 35 #[.int .i64 view, .int .i64 opn, .int .i64 under, .int .u64 (parent : Int), .int .i64 client, .int .i64 session, .int .i64 request, .int .i64 oper, .string body] (0, 0) _ (Row.arr (cs := #[.int .i64 view, .int .i64 opn, .int .i64 under, .int .u64 (parent : Int), .int .i64 client, .int .i64 session, .int .i64 request, .int .i64 oper, .string body]) HE0.out) Tryz.underlying35 rfl HZ.out ?_)
    | (go_at_call 25; refine (HR.out _).mono ?_; rintro e w1 ⟨rfl, hb1⟩; have hm := HM0.out.below hb1 HM0.out.lt; have he := HE0.out.below hb1 HE0.out.lt; have m0 := hm.at_ 0 _ rfl; have m1 := hm.at_ 1 _ rfl; have m2 := hm.at_ 2 _ rfl; have e1 := he.at_ 1 _ rfl; have e2 := he.at_ 2 _ rfl; have e3 := he.at_ 3 _ rfl; have HB1 := hid (HB0.out.trans (hb1.mono HB0.out.size)); clear hb1 hm he))
  all_goals (go_ret; refine ⟨by simp [*] <;> first | rfl | exact Bool.beq_eq_decide_eq _ _ | (rw [Bool.beq_eq_decide_eq]; exact decide_eq_decide.2 ⟨Eq.symm, Eq.symm⟩) | (intros; omega), HB1.out⟩)
set_option maxHeartbeats 1000000 in
theorem efol_no (view opn under : Int) (parent : Nat) (client session request oper : Int) (body : ByteArray) (mo mv : Int) (ms : Nat) (w : World) 
    (HR : Hid (∀ W : World, Calls Tryz.prog 25 #[.agg #[.int .i64 view, .int .i64 opn, .int .i64 under, .int .u64 (parent : Int), .int .i64 client, .int .i64 session, .int .i64 request, .int .i64 oper, .string body]] W (VE W (.bool false)))) :
    Calls Tryz.prog 10 #[.agg #[.int .i64 mo, .int .i64 mv, .int .u64 (ms : Int)], .agg #[.int .i64 view, .int .i64 opn, .int .i64 under, .int .u64 (parent : Int), .int .i64 client, .int .i64 session, .int .i64 request, .int .i64 oper, .string body]] w (VE w (.bool false)) := by
  obtain ⟨W0, hW0⟩ : ∃ W0, W0 = (w.alloc (.cells #[.int .i64 mo, .int .i64 mv, .int .u64 (ms : Int)] 27)).alloc (.cells #[.int .i64 view, .int .i64 opn, .int .i64 under, .int .u64 (parent : Int), .int .i64 client, .int .i64 session, .int .i64 request, .int .i64 oper, .string body] 35) := ⟨_, rfl⟩
  have HB0 : Hid (Below w.heap.size w W0) := hid (by rw [hW0]; repeat' first | exact Below.refl _ _ | refine Below.alloc ?_ (by simp <;> omega) _)
  have HM0 : Hid (Row W0 w.heap.size 27 (#[.int .i64 mo, .int .i64 mv, .int .u64 (ms : Int)] : Array Value).toList) := hid (by rw [hW0]; exact (Row.new _ _ _).alloc _)
  have HE0 : Hid (Row W0 (w.heap.size + 1) 35 (#[.int .i64 view, .int .i64 opn, .int .i64 under, .int .u64 (parent : Int), .int .i64 client, .int .i64 session, .int .i64 request, .int .i64 oper, .string body] : Array Value).toList) := hid (by
    rw [hW0]
    have := Row.new (w.alloc (.cells #[.int .i64 mo, .int .i64 mv, .int .u64 (ms : Int)] 27)) 35 #[.int .i64 view, .int .i64 opn, .int .i64 under, .int .u64 (parent : Int), .int .i64 client, .int .i64 session, .int .i64 request, .int .i64 oper, .string body]
    simpa using this)
  have HZ := hid esize
  have HW0 := hid hW0
  clear hW0
  go_enter Tryz.func10, Tryz.ntmps10
  go_wp2_with (first
    | (rw [← HW0.out]; refine wpList_load_row rfl 35 (.tmp 3) rfl (w.heap.size + 1) rfl 35 #[.int .i64 view, .int .i64 opn, .int .i64 under, .int .u64 (parent : Int), .int .i64 client, .int .i64 session, .int .i64 request, .int .i64 oper, .string body] (0, 0) _ (Row.arr (cs := #[.int .i64 view, .int .i64 opn, .int .i64 under, .int .u64 (parent : Int), .int .i64 client, .int .i64 session, .int .i64 request, .int .i64 oper, .string body]) HE0.out) Tryz.underlying35 rfl HZ.out ?_)
    | (go_at_call 25; refine (HR.out _).mono ?_; rintro e w1 ⟨rfl, hb1⟩; have hm := HM0.out.below hb1 HM0.out.lt; have he := HE0.out.below hb1 HE0.out.lt; have m0 := hm.at_ 0 _ rfl; have m1 := hm.at_ 1 _ rfl; have m2 := hm.at_ 2 _ rfl; have e1 := he.at_ 1 _ rfl; have e2 := he.at_ 2 _ rfl; have e3 := he.at_ 3 _ rfl; have HB1 := hid (HB0.out.trans (hb1.mono HB0.out.size)); clear hb1 hm he))
  all_goals (go_ret; refine ⟨by simp [*], HB1.out⟩)
theorem efol_any (m : Mk) (e : En) (w : World) : Calls Tryz.prog 10 #[m.val, e.val] w (VE w (.bool (decide (Fol m e)))) := by
  have HR := hid (fun W => eright_any e W)
  have hb : decide (Fol m e) = (decide (Rt e) && (decide (e.opn - 1 = m.opn) && decide (e.under = m.view) && decide ((e.parent : Int) = m.sum))) := by
    rw [Bool.eq_iff_iff, decide_eq_true_iff]
    unfold Fol
    simp only [Bool.and_eq_true, decide_eq_true_eq, and_assoc]
    constructor <;> exact fun ⟨a, b, c, d⟩ => ⟨a, b, c, by omega⟩
  rw [hb]
  clear hb
  obtain ⟨mo, mv, ms⟩ := m
  by_cases h : Rt e
  · obtain ⟨⟨h1, h2⟩, _⟩ := id h
    rw [decide_eq_true h, Bool.true_and]
    rw [decide_eq_true h] at HR
    obtain ⟨view, opn, under, parent, client, session, request, oper, body⟩ := e
    exact efol_yes view opn under parent client session request oper body mo mv ms w h1 h2 HR
  · rw [decide_eq_false h, Bool.false_and]
    rw [decide_eq_false h] at HR
    obtain ⟨view, opn, under, parent, client, session, request, oper, body⟩ := e
    exact efol_no view opn under parent client session request oper body mo mv ms w HR
end Go.Proofs.YteahbalcielhpaaGreatDoor
/-
  The walks of package entry's headOf, entryOf.
-/
namespace Go.Proofs.YteahbalcielhpaaGreatDoor
open Go.RowKit
set_option maxRecDepth 10000

/-- an entry's header; an entry of a header and a body -/
def hof (e : En) : Hd := ⟨255, 0, e.oper, e.view, e.opn, 0, e.client, e.session, e.request, e.under, 0, e.parent⟩
set_option maxHeartbeats 1000000 in
theorem hof_any (e : En) (w : World) : Calls Tryz.prog 46 #[e.val] w (VE w (hof e).val) := by
  obtain ⟨view, opn, under, parent, client, session, request, oper, body⟩ := e
  show Calls Tryz.prog 46 #[.agg #[.int .i64 view, .int .i64 opn, .int .i64 under, .int .u64 (parent : Int), .int .i64 client, .int .i64 session, .int .i64 request, .int .i64 oper, .string body]] w (VE w (.agg #[.int .i64 255, .int .i64 0, .int .i64 oper, .int .i64 view, .int .i64 opn, .int .i64 0, .int .i64 client, .int .i64 session, .int .i64 request, .int .i64 under, .int .i64 0, .int .u64 (parent : Int)]))
  go_enter Tryz.func46, Tryz.ntmps46
  go_wp2_with fail
  refine bodyPost_ret (v := .agg #[.int .i64 255, .int .i64 0, .int .i64 oper, .int .i64 view, .int .i64 opn, .int .i64 0, .int .i64 client, .int .i64 session, .int .i64 request, .int .i64 under, .int .i64 0, .int .u64 (parent : Int)])
    (results_cell_row rfl _ _ (w.heap.size + 1) 79 _ (0, 0) _ rfl (alloc2_new _ _ _) Tryz.underlying79 rfl (by kernel_rfl)) rfl ⟨rfl, ((Below.refl _ _).alloc (Nat.le_refl _) _).alloc (by simp) _⟩
end Go.Proofs.YteahbalcielhpaaGreatDoor
/-
  The walks of the document's fits, Right.
-/
namespace Go.Proofs.YteahbalcielhpaaGreatDoor
open Go.RowKit
set_option maxRecDepth 10000

def f9 (n l : Int) : Bool := decide (l ≤ n ∧ n ≤ 72057594037927935)
theorem fits9_any (n l : Int) (b : Bool) (w : World) (h : b = f9 n l) : Calls Tryz.prog 59 #[.int .i64 n, .int .i64 l] w fun e w' => e = .returned (.bool b) ∧ w = w' := by
  subst h
  unfold f9
  by_cases h0 : l ≤ n
  · by_cases h1 : n ≤ 72057594037927935
    · go_enter Tryz.func59, Tryz.ntmps59
      go_wp2
      go_ret
      exact ⟨by simp [h0, h1], rfl⟩
    · go_enter Tryz.func59, Tryz.ntmps59
      go_wp2
      go_ret
      exact ⟨by simp [h1], rfl⟩
  · have h2 : decide (l ≤ n) = false := by simp; omega
    go_enter Tryz.func59, Tryz.ntmps59
    go_wp2
    go_ret
    exact ⟨by first | (simp; done) | (simp; omega), rfl⟩
theorem rt9_iff (e : En) : decide (Rt e) = (f9 e.opn 1 && f9 e.client 1 && f9 e.view 0 && f9 e.under 0 && f9 e.session 0 && f9 e.request 0 && decide (e.under ≤ e.view) && decide (1 ≤ e.oper) && decide (e.oper ≤ 255) && decide ((e.body.size : Int) ≤ 200)) := by
  rw [Bool.eq_iff_iff, decide_eq_true_iff]
  unfold Rt f9
  simp only [Bool.and_eq_true, decide_eq_true_eq]
  constructor
  · rintro ⟨h1, h2, h3, h4, h5, h6, ⟨h7, h8⟩, h9, h10⟩
    exact ⟨⟨⟨⟨⟨⟨⟨⟨⟨h1, h2⟩, h3⟩, h4⟩, h5⟩, h6⟩, h9⟩, h7⟩, h8⟩, h10⟩
  · rintro ⟨⟨⟨⟨⟨⟨⟨⟨⟨h1, h2⟩, h3⟩, h4⟩, h5⟩, h6⟩, h9⟩, h7⟩, h8⟩, h10⟩
    exact ⟨h1, h2, h3, h4, h5, h6, ⟨h7, h8⟩, h9, h10⟩
set_option maxHeartbeats 2000000 in
theorem rright9_any (e : En) (w : World) : Calls Tryz.prog 42 #[e.val] w (VE w (.bool (decide (Rt e)))) := by
  rw [rt9_iff]
  obtain ⟨view, opn, under, parent, client, session, request, oper, body⟩ := e
  show Calls Tryz.prog 42 #[.agg #[.int .i64 view, .int .i64 opn, .int .i64 under, .int .u64 (parent : Int), .int .i64 client, .int .i64 session, .int .i64 request, .int .i64 oper, .string body]] w (VE w (.bool (f9 opn 1 && f9 client 1 && f9 view 0 && f9 under 0 && f9 session 0 && f9 request 0 && decide (under ≤ view) && decide (1 ≤ oper) && decide (oper ≤ 255) && decide ((body.size : Int) ≤ 200))))
  have H1 := hid (fun W => fits9_any opn 1 _ W rfl)
  have H2 := hid (fun W => fits9_any client 1 _ W rfl)
  have H3 := hid (fun W => fits9_any view 0 _ W rfl)
  have H4 := hid (fun W => fits9_any under 0 _ W rfl)
  have H5 := hid (fun W => fits9_any session 0 _ W rfl)
  have H6 := hid (fun W => fits9_any request 0 _ W rfl)
  generalize f9 opn 1 = b1 at *
  generalize f9 client 1 = b2 at *
  generalize f9 view 0 = b3 at *
  generalize f9 under 0 = b4 at *
  generalize f9 session 0 = b5 at *
  generalize f9 request 0 = b6 at *
  go_enter Tryz.func42, Tryz.ntmps42
  go_wp2_with (first
    | (go_at_call 59; refine (H1.out _).mono ?_; rintro e w' ⟨rfl, rfl⟩; clear H1)
    | (go_at_call 59; refine (H2.out _).mono ?_; rintro e w' ⟨rfl, rfl⟩; clear H2)
    | (go_at_call 59; refine (H3.out _).mono ?_; rintro e w' ⟨rfl, rfl⟩; clear H3)
    | (go_at_call 59; refine (H4.out _).mono ?_; rintro e w' ⟨rfl, rfl⟩; clear H4)
    | (go_at_call 59; refine (H5.out _).mono ?_; rintro e w' ⟨rfl, rfl⟩; clear H5)
    | (go_at_call 59; refine (H6.out _).mono ?_; rintro e w' ⟨rfl, rfl⟩; clear H6))
  all_goals (go_ret; refine ⟨by first | (simp [*]; done) | (cases b6 <;> simp_all; done) | (cases b6 <;> simp_all <;> omega), ?_⟩; exact (Below.refl _ _).alloc (Nat.le_refl _) _)
end Go.Proofs.YteahbalcielhpaaGreatDoor
/-
  The walk of package entry's Pack.
-/
namespace Go.Proofs.YteahbalcielhpaaGreatDoor
open Go.RowKit
set_option maxRecDepth 10000

/-- what Pack answers -/
def packE (e : En) : List UInt8 × Int := if Rt e then packS (hof e) (sb e.body) else ([], 4)
set_option maxHeartbeats 1000000 in
theorem epack_no (E : Array Value) (w : World) (hE : (Tryz.prog.info? 35).map (·.size) = some E.size)
    (HR : Hid (∀ W : World, Calls Tryz.prog 25 #[.agg E] W (VE W (.bool false)))) :
    Calls Tryz.prog 26 #[.agg E] w (SN w ([], 4)) := by
  have HE := hid hE
  have HB := hid ((Below.refl w.heap.size w).alloc (Nat.le_refl _) (.cells E 35))
  have HRW : Hid (Row (w.alloc (.cells E 35)) w.heap.size 35 E.toList) := hid (Row.new _ _ _)
  clear hE
  go_enter Tryz.func26, Tryz.ntmps26
  go_wp2_with (first
    | (refine wpList_load_row rfl 35 (.tmp 1) rfl w.heap.size rfl 35 E (0, 0) _ HRW.out.arr Tryz.underlying35 rfl HE.out ?_)
    | (go_at_call 25; refine (HR.out _).mono ?_; rintro e w1 ⟨rfl, hb1⟩))
  go_ret2
  exact ⟨rfl, HB.out.trans (hb1.mono HB.out.size)⟩
set_option maxHeartbeats 2000000 in
theorem epack_yes (view opn under : Int) (parent : Nat) (client session request oper : Int) (body : ByteArray) (T : ByteArray) (f : Int) (w : World) (hf : Fd w)
    (HR : Hid (∀ W : World, Calls Tryz.prog 25 #[.agg #[.int .i64 view, .int .i64 opn, .int .i64 under, .int .u64 (parent : Int), .int .i64 client, .int .i64 session, .int .i64 request, .int .i64 oper, .string body]] W (VE W (.bool true))))
    (HH : Hid (∀ W : World, Calls Tryz.prog 46 #[.agg #[.int .i64 view, .int .i64 opn, .int .i64 under, .int .u64 (parent : Int), .int .i64 client, .int .i64 session, .int .i64 request, .int .i64 oper, .string body]] W (VE W (.agg #[.int .i64 255, .int .i64 0, .int .i64 oper, .int .i64 view, .int .i64 opn, .int .i64 0, .int .i64 client, .int .i64 session, .int .i64 request, .int .i64 under, .int .i64 0, .int .u64 (parent : Int)]))))
    (HP : Hid (∀ W : World, Fd W → Calls Tryz.prog 45 #[.agg #[.int .i64 255, .int .i64 0, .int .i64 oper, .int .i64 view, .int .i64 opn, .int .i64 0, .int .i64 client, .int .i64 session, .int .i64 request, .int .i64 under, .int .i64 0, .int .u64 (parent : Int)], .string body] W fun x W' => x = .returned (.tuple #[.string T, .int .i64 f]) ∧ Below W.heap.size W W')) :
    Calls Tryz.prog 26 #[.agg #[.int .i64 view, .int .i64 opn, .int .i64 under, .int .u64 (parent : Int), .int .i64 client, .int .i64 session, .int .i64 request, .int .i64 oper, .string body]] w fun x W' => x = .returned (.tuple #[.string T, .int .i64 f]) ∧ Below w.heap.size w W' := by
  have HZ := hid esize
  have HF := hid hf
  have HB := hid ((Below.refl w.heap.size w).alloc (Nat.le_refl _) (.cells #[.int .i64 view, .int .i64 opn, .int .i64 under, .int .u64 (parent : Int), .int .i64 client, .int .i64 session, .int .i64 request, .int .i64 oper, .string body] 35))
  have HRW : Hid (Row (w.alloc (.cells #[.int .i64 view, .int .i64 opn, .int .i64 under, .int .u64 (parent : Int), .int .i64 client, .int .i64 session, .int .i64 request, .int .i64 oper, .string body] 35)) w.heap.size 35 (#[.int .i64 view, .int .i64 opn, .int .i64 under, .int .u64 (parent : Int), .int .i64 client, .int .i64 session, .int .i64 request, .int .i64 oper, .string body] : Array Value).toList) := hid (Row.new _ _ _)
  clear hf
  go_enter Tryz.func26, Tryz.ntmps26
  go_wp2_with (go_at_call 25; refine (HR.out _).mono ?_; rintro e w1 ⟨rfl, hb1⟩; have HB1 := hid (HB.out.trans (hb1.mono HB.out.size)); have HE1 := hid (HRW.out.below hb1 HRW.out.lt); clear hb1)
  have HF1 := hid (HF.out.below HB1.out HF.out.1)
  refine wp_region_held_drew (S := fun W => Below w1.heap.size w1 W) (by kernel_rfl) ((Below.refl _ _).drew) (fun hH => ?_)
  refine wpAnyH_take (i := 0) (v := .agg #[.int .i64 view, .int .i64 opn, .int .i64 under, .int .u64 (parent : Int), .int .i64 client, .int .i64 session, .int .i64 request, .int .i64 oper, .string body]) rfl (by kernel_rfl) (by kernel_rfl) (by kernel_rfl) (fun _ _ _ h => h) ?_ hH ?_
  · refine yieldsIf_load_mid ?_ 35 (.tmp 1) ?_ w.heap.size 0 ?_ (Array.toList #[.int .i64 view, .int .i64 opn, .int .i64 under, .int .u64 (parent : Int), .int .i64 client, .int .i64 session, .int .i64 request, .int .i64 oper, .string body]) _ (fun W hW => Row.range (HE1.out.below hW HE1.out.lt)) Tryz.underlying35 rfl HZ.out
    all_goals kernel_rfl
  simp only [Act.put]
  refine wpAnyH_take (i := 2) (v := .pointer (some ⟨w.heap.size, 8, none⟩)) rfl (by kernel_rfl) (by kernel_rfl) (by kernel_rfl) (fun _ _ _ h => h) (Or.inl ⟨by rfl, fun w' hw' => by clear hw'; go_simp⟩) hH ?_
  simp only [Act.put]
  refine wpAnyH_take (i := 3) (v := .string body) rfl (by kernel_rfl) (by kernel_rfl) (by kernel_rfl) (fun _ _ _ h => h) (Or.inl ⟨by rfl, fun w' hw' => by have h := (HE1.out.below hw' HE1.out.lt).at_ 8 _ rfl; clear hw'; go_simp⟩) hH ?_
  simp only [Act.put]
  refine wpAnyH_ready (rs := [1]) (by kernel_rfl) (by simp) ?_
  refine AllReadyH.cons rfl (fun K hK => ?_) AllReadyH.nil
  go_simp
  go_at_call 46
  refine (HH.out _).mono ?_
  rintro e w2 ⟨rfl, hb2⟩
  go_wp2_with fail
  refine hK.out _ _ (hH.trans (Below.mono hb2 hH.size)) (fun hH => ?_)
  clear hK K
  try simp only [Act.put]
  refine wpAnyH_ready (rs := [4]) (by kernel_rfl) (by simp) ?_
  refine AllReadyH.cons rfl (fun K hK => ?_) AllReadyH.nil
  go_simp
  go_at_call 45
  refine (HP.out _ (HF1.out.below hH HF1.out.1)).mono ?_
  rintro e w3 ⟨rfl, hb3⟩
  go_wp2_with fail
  refine hK.out _ _ (hH.trans (Below.mono hb3 hH.size)) (fun hH => ?_)
  clear hK K
  try simp only [Act.put]
  refine wpAnyH_take (i := 5) (v := .string T) rfl (by kernel_rfl) (by kernel_rfl) (by kernel_rfl) (fun _ _ _ h => h) (Or.inl ⟨by rfl, fun w' hw' => by clear hw'; go_simp⟩) hH ?_
  simp only [Act.put]
  refine wpAnyH_take (i := 6) (v := .int .i64 f) rfl (by kernel_rfl) (by kernel_rfl) (by kernel_rfl) (fun _ _ _ h => h) (Or.inl ⟨by rfl, fun w' hw' => by clear hw'; go_simp⟩) hH ?_
  simp only [Act.put]
  refine wpAnyH_ready (rs := [7]) (by kernel_rfl) (by simp) ?_
  refine AllReadyH.cons rfl (fun K hK => ?_) AllReadyH.nil
  go_simp
  refine hK.out _ _ (hH) (fun hH => ?_)
  clear hK K
  try simp only [Act.put]
  refine wpAnyH_ready (rs := [8]) (by kernel_rfl) (by simp) ?_
  refine AllReadyH.cons rfl (fun K hK => ?_) AllReadyH.nil
  go_simp
  refine hK.out _ _ (hH) (fun hH => ?_)
  clear hK K
  try simp only [Act.put]
  refine wpAnyH_done (by kernel_rfl) ?_ _
  try simp only [Act.put]
  go_wp2_with fail
  go_ret2
  exact ⟨rfl, HB1.out.trans (hH.mono HB1.out.size)⟩
theorem packS_rt {e : En} (he : e.fits) (h : Rt e) : Fits (hof e).nums ∧ (hof e).fits := by
  obtain ⟨⟨a1, a2, a3, a4⟩, ⟨b1, b2, b3⟩, hp⟩ := he
  obtain ⟨h1, h2, h3, h4, h5, h6, h7, h8, h9⟩ := h
  have hh : (hof e).fits := ⟨⟨⟨by show (-9223372036854775808 : Int) ≤ 255; omega, by show (255 : Int) ≤ _; omega⟩, ⟨by show (-9223372036854775808 : Int) ≤ 0; omega, by show (0 : Int) ≤ _; omega⟩, b3, a1, a2, ⟨by show (-9223372036854775808 : Int) ≤ 0; omega, by show (0 : Int) ≤ _; omega⟩⟩, ⟨a4, b1, b2, a3, ⟨by show (-9223372036854775808 : Int) ≤ 0; omega, by show (0 : Int) ≤ _; omega⟩⟩, hp⟩
  refine ⟨?_, hh⟩
  have hr := right_fits (hof e) hh
  have : rightS (hof e) = true := by
    unfold rightS sm ft hof
    simp only [Bool.and_eq_true, decide_eq_true_eq]
    exact ⟨⟨⟨⟨⟨⟨⟨⟨⟨⟨⟨by omega, by omega⟩, by omega, by omega⟩, by omega, by omega⟩, h3⟩, by omega, by omega⟩, by omega, by omega⟩, by omega, by omega⟩, h5⟩, h6⟩, h4⟩, by omega, by omega⟩
  rw [this] at hr
  exact of_decide_eq_true hr.symm
theorem epack_any (e : En) (w : World) (hf : Fd w) : Calls Tryz.prog 26 #[e.val] w (SN w (packE e)) := by
  have HR := hid (fun W => eright_any e W)
  unfold packE
  by_cases h : Rt e
  · rw [if_pos h]
    rw [decide_eq_true h] at HR
    have HH := hid (fun W => hof_any e W)
    have HP := hid (fun W hW => pack_any (hof e) e.body W hW)
    obtain ⟨r, hr⟩ : ∃ r, r = packS (hof e) (sb e.body) := ⟨_, rfl⟩
    rw [← hr] at HP ⊢
    obtain ⟨view, opn, under, parent, client, session, request, oper, body⟩ := e
    exact epack_yes view opn under parent client session request oper body ⟨r.1.toArray⟩ r.2 w hf HR HH HP
  · rw [if_neg h]
    rw [decide_eq_false h] at HR
    exact epack_no e.cells w (ecells_size e) HR
end Go.Proofs.YteahbalcielhpaaGreatDoor
/-
  The walk of the document's Pack of an entry.
-/
namespace Go.Proofs.YteahbalcielhpaaGreatDoor
open Go.RowKit
set_option maxRecDepth 10000

set_option maxHeartbeats 1000000 in
theorem rpack9_no (E : Array Value) (w : World) (hE : (Tryz.prog.info? 35).map (·.size) = some E.size)
    (HR : Hid (∀ W : World, Calls Tryz.prog 42 #[.agg E] W (VE W (.bool false)))) :
    Calls Tryz.prog 82 #[.agg E] w (SN w ([], 4)) := by
  have HE := hid hE
  have HB := hid ((Below.refl w.heap.size w).alloc (Nat.le_refl _) (.cells E 35))
  have HRW : Hid (Row (w.alloc (.cells E 35)) w.heap.size 35 E.toList) := hid (Row.new _ _ _)
  clear hE
  go_enter Tryz.func82, Tryz.ntmps82
  go_wp2_with (first
    | (refine wpList_load_row rfl 35 (.tmp 1) rfl w.heap.size rfl 35 E (0, 0) _ HRW.out.arr Tryz.underlying35 rfl HE.out ?_)
    | (go_at_call 42; refine (HR.out _).mono ?_; rintro e w1 ⟨rfl, hb1⟩))
  go_ret2
  exact ⟨rfl, HB.out.trans (hb1.mono HB.out.size)⟩
set_option maxHeartbeats 2000000 in
theorem rpack9_yes (view opn under : Int) (parent : Nat) (client session request oper : Int) (body : ByteArray) (T : ByteArray) (f : Int) (w : World)
    (HR : Hid (∀ W : World, Calls Tryz.prog 42 #[.agg #[.int .i64 view, .int .i64 opn, .int .i64 under, .int .u64 (parent : Int), .int .i64 client, .int .i64 session, .int .i64 request, .int .i64 oper, .string body]] W (VE W (.bool true))))
    (HP : Hid (∀ W : World, Calls Tryz.prog 90 #[.agg #[.int .i64 255, .int .i64 0, .int .i64 oper, .int .i64 view, .int .i64 opn, .int .i64 0, .int .i64 client, .int .i64 session, .int .i64 request, .int .i64 under, .int .i64 0, .int .u64 (parent : Int)], .string body] W fun x W' => x = .returned (.tuple #[.string T, .int .i64 f]) ∧ Below W.heap.size W W')) :
    Calls Tryz.prog 82 #[.agg #[.int .i64 view, .int .i64 opn, .int .i64 under, .int .u64 (parent : Int), .int .i64 client, .int .i64 session, .int .i64 request, .int .i64 oper, .string body]] w fun x W' => x = .returned (.tuple #[.string T, .int .i64 f]) ∧ Below w.heap.size w W' := by
  have HB := hid ((Below.refl w.heap.size w).alloc (Nat.le_refl _) (.cells #[.int .i64 view, .int .i64 opn, .int .i64 under, .int .u64 (parent : Int), .int .i64 client, .int .i64 session, .int .i64 request, .int .i64 oper, .string body] 35))
  have HRW : Hid (Row (w.alloc (.cells #[.int .i64 view, .int .i64 opn, .int .i64 under, .int .u64 (parent : Int), .int .i64 client, .int .i64 session, .int .i64 request, .int .i64 oper, .string body] 35)) w.heap.size 35 (#[.int .i64 view, .int .i64 opn, .int .i64 under, .int .u64 (parent : Int), .int .i64 client, .int .i64 session, .int .i64 request, .int .i64 oper, .string body] : Array Value).toList) := hid (Row.new _ _ _)
  go_enter Tryz.func82, Tryz.ntmps82
  go_wp2_with (first
    | (go_at_call 42; refine (HR.out _).mono ?_; rintro e w1 ⟨rfl, hb1⟩; have HB1 := hid (HB.out.trans (hb1.mono HB.out.size)); have he := HRW.out.below hb1 HRW.out.lt; have hlt := he.lt; have c0 := he.at_ 0 _ rfl; have c1 := he.at_ 1 _ rfl; have c2 := he.at_ 2 _ rfl; have c3 := he.at_ 3 _ rfl; have c4 := he.at_ 4 _ rfl; have c5 := he.at_ 5 _ rfl; have c6 := he.at_ 6 _ rfl; have c7 := he.at_ 7 _ rfl; have c8 := he.at_ 8 _ rfl; clear hb1 he)
    | (go_at_call 90; refine (HP.out _).mono ?_; rintro e w2 ⟨rfl, hb2⟩))
  go_ret2
  have h1 := HB1.out.alloc HB1.out.size (.cells #[.int .i64 255, .int .i64 0, .int .i64 oper, .int .i64 view, .int .i64 opn, .int .i64 0, .int .i64 client, .int .i64 session, .int .i64 request, .int .i64 under, .int .i64 0, .int .u64 (parent : Int)] 79)
  exact ⟨rfl, h1.trans (hb2.mono h1.size)⟩
theorem rpack9_any (e : En) (he : e.fits) (w : World) : Calls Tryz.prog 82 #[e.val] w (SN w (packE e)) := by
  have HR := hid (fun W => rright9_any e W)
  unfold packE
  by_cases h : Rt e
  · rw [if_pos h]
    rw [decide_eq_true h] at HR
    have HP := hid (fun W => rpack_any (hof e) (packS_rt he h).2 e.body W)
    obtain ⟨r, hr⟩ : ∃ r, r = packS (hof e) (sb e.body) := ⟨_, rfl⟩
    rw [← hr] at HP ⊢
    obtain ⟨view, opn, under, parent, client, session, request, oper, body⟩ := e
    exact rpack9_yes view opn under parent client session request oper body ⟨r.1.toArray⟩ r.2 w HR HP
  · rw [if_neg h]
    rw [decide_eq_false h] at HR
    exact rpack9_no e.cells w (ecells_size e) HR
end Go.Proofs.YteahbalcielhpaaGreatDoor
/-
  The walk of package entry's Unpack.
-/
namespace Go.Proofs.YteahbalcielhpaaGreatDoor
open Go.RowKit
set_option maxRecDepth 10000

theorem hsize : (Tryz.prog.info? 79).map (·.size) = some 12 := by kernel_rfl
end Go.Proofs.YteahbalcielhpaaGreatDoor
