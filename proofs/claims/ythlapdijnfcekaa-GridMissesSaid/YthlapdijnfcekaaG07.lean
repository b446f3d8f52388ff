/-
  Small words that the texts of this seat share: structs held against each other, loaded, stored, told.
-/
import Derived.Test.YthlapdijnfcekaaG05
import Derived.Test.YthlapdijnfcekaaG06
import Derived.Laws.StructEq
import Derived.BigFrame
import Derived.Laws.IdiomCopy
import Derived.Deep.RegionHeld
import Derived.Test.YthlapdijnfcekaaRows
namespace Go.Proofs.Ythlapdijnfcekaa
open Go.RowKit
set_option maxRecDepth 10000

def In64 (x : Int) : Prop := -9223372036854775808 ≤ x ∧ x ≤ 9223372036854775807
/-- a value, and what was there is as it was -/
def VE (w : World) (v : Value) (e : Ending) (w' : World) : Prop := e = .returned v ∧ Below w.heap.size w w'
theorem alloc2_new (w : World) (o1 o2 : Obj) : ((w.alloc o1).alloc o2).heap[w.heap.size + 1]? = some o2 := by
  have := heap_alloc_new (w.alloc o1) o2
  simpa using this
theorem eqF_int {P : Program} {W : World} (d : Nat) (xs ys : Array Value) (f : Field) (fs : List Field) (k : IntKind) (a b : Int) (hn : f.name ≠ "_") (hx : (part f.type xs f.offset).run P W = .ok (.int k a) W) (hy : (part f.type ys f.offset).run P W = .ok (.int k b) W) (ht : P.underlying f.type = some (.int k)) :
    (Op.eqFields (d + 1) xs ys (f :: fs)).run P W = if a = b then (Op.eqFields (d + 1) xs ys fs).run P W else .ok false W := by
  simp only [Op.eqFields, if_pos hn, Sem.run_bind, hx, hy, Result.andThen_ok, run_equalIn_int W d f.type k k a b ht]
  by_cases h : a = b
  · subst h
    simp
  · simp [h]
theorem eqF_nil {P : Program} {W : World} (d : Nat) (xs ys : Array Value) : (Op.eqFields d xs ys []).run P W = .ok true W := by simp [Op.eqFields]
theorem part_int {P : Program} {W : World} (t : TypeId) (xs : Array Value) (i : Nat) (v : Value) (ik : IntKind) (ht : P.underlying t = some (.int ik)) (hs : (P.info? t).map (·.size) = some 1) (hv : xs[i]? = some v) : (part t xs i).run P W = .ok v W := by
  obtain ⟨j, hj, hjs⟩ := Option.map_eq_some_iff.1 hs
  simp [part, isAgg, run_underlying ht, sizeOf, typeInfo, hj, hjs, hv]
theorem sizeInt : (Try.prog.info? 3).map (·.size) = some 1 := by kernel_rfl
theorem sizeU64 : (Try.prog.info? 28).map (·.size) = some 1 := by kernel_rfl
theorem part_str {P : Program} {W : World} (t : TypeId) (xs : Array Value) (i : Nat) (v : Value) (ht : P.underlying t = some .string) (hs : (P.info? t).map (·.size) = some 1) (hv : xs[i]? = some v) : (part t xs i).run P W = .ok v W := by
  obtain ⟨j, hj, hjs⟩ := Option.map_eq_some_iff.1 hs
  simp [part, isAgg, run_underlying ht, sizeOf, typeInfo, hj, hjs, hv]
theorem sizeStr : (Try.prog.info? 9).map (·.size) = some 1 := by kernel_rfl
theorem eqF_strs {P : Program} {W : World} (d : Nat) (xs ys : Array Value) (f : Field) (fs : List Field) (a b : ByteArray) (hn : f.name ≠ "_") (hx : (part f.type xs f.offset).run P W = .ok (.string a) W) (hy : (part f.type ys f.offset).run P W = .ok (.string b) W) (ht : P.underlying f.type = some .string) :
    (Op.eqFields (d + 1) xs ys (f :: fs)).run P W = if a = b then (Op.eqFields (d + 1) xs ys fs).run P W else .ok false W := by
  simp only [Op.eqFields, if_pos hn, Sem.run_bind, hx, hy, Result.andThen_ok, run_equalIn_string W d f.type a b ht]
  by_cases h : a = b
  · subst h
    simp
  · have h2 := str_ne h
    simp [h, h2]
theorem Row.arr {w : World} {g : Nat} {e : TypeId} {cs : Array Value} (h : Row w g e cs.toList) : w.heap[g]? = some (.cells cs e (0, 0)) := by simpa [Row] using h
/-- a load under a guard that says yes -/
theorem wpl_load_want {P : Program} {ops : Array Oper} {rest : List Oper} {o : Oper} {a : Act} {w : World} {Q : Exit → Act → World → Prop} (hw : Region.wanted o (yielded ops a.tmps) = true) (ty : TypeId) (x : Operand) (ho : o.op = .load ty x)
    (g : Nat) (hx : a.eval x = .pointer (some ⟨g, 0, none⟩)) (t : TypeId) (cs : Array Value) (fr : Nat × Nat) (d : TypeDesc) (hg : w.heap[g]? = some (.cells cs t fr))
    (hu : P.underlying ty = some d) (hd : (match d with | .struct _ | .array _ _ => true | _ => false) = true) (hi : (P.info? ty).map (·.size) = some cs.size)
    (h : wpList P ops Q rest (a.put o.dst (.agg cs)) w) : wpList P ops Q (o :: rest) a w :=
  BigFrame.wpList_want hw fun _ hK => wp_load_row ty x ho g hx t cs fr d hg hu hd hi (hK _ _ h)
/-- a store of a struct -/
theorem wpl_store_st {P : Program} {ops : Array Oper} {rest : List Oper} {o : Oper} {a : Act} {w : World} {Q : Exit → Act → World → Prop} (hgd : o.guard = none) {T : TypeId} (x y : Operand) (ho : o.op = .store T x y) {n : Nat} (hn : (P.info? T).map (·.size) = some n)
    (g : Nat) (cs0 cs : Array Value) (hx : a.eval x = .pointer (some ⟨g, 0, none⟩)) (hy : a.eval y = .agg cs) (hrow : Row w g T cs0.toList)
    (hK : ∀ w', Row w' g T cs.toList → w.grownBy w' (some g) → wpList P ops Q rest (a.put o.dst undef) w')
    (h0 : Hid (cs0.size = n)) (h1 : Hid (cs.size = n)) (hone : Hid (cs.all (·.oneCell') = true)) : wpList P ops Q (o :: rest) a w :=
  wpList_plain hgd fun _ hK' => wp_store_row T x y ho g cs hx hy T cs0 hrow.arr (by rw [hn, h1.out]) (by simp [h0.out, h1.out]) (by simpa using hone.out)
    (hK' _ _ (hK _ (by
      have := setRow_heap w g cs0 cs T (0, 0) hrow.arr
      simpa [Row] using this) (grownBy_setRow w g _)))
/-- a store of one cell -/
theorem wpl_store_c {P : Program} {ops : Array Oper} {rest : List Oper} {o : Oper} {a : Act} {w : World} {Q : Exit → Act → World → Prop} (hgd : o.guard = none) (T : TypeId) (x y : Operand) (ho : o.op = .store T x y)
    (g i : Nat) (v : Value) (hx : a.eval x = .pointer (some ⟨g, i, none⟩)) (hy : a.eval y = v) {E : TypeId} {xs : List Value} (hrow : Row w g E xs) (hs : (P.info? T).map (·.size) = some 1)
    (hK : ∀ w', Row w' g E (xs.set i v) → w.grownBy w' (some g) → wpList P ops Q rest (a.put o.dst undef) w')
    (hi : Hid (i < xs.length)) (hone : Hid (v.oneCell' = true)) : wpList P ops Q (o :: rest) a w :=
  wpList_plain hgd fun _ hK' => by
    have h1 := run_storeCells_cells (P := P) g i [v] 0 w (fun j hj => by
      have : j = 0 := by simpa using hj
      subst this
      show (w.cell? ⟨g, i, none⟩).isSome = true
      rw [hrow.cell, List.getElem?_eq_getElem hi.out]; rfl) (fun j hj => hrow.frozen _) (fun u hu => by rw [List.mem_singleton.1 hu]; exact hone.out)
    have hc : v.cells = #[v] := by
      have := hone.out
      cases v <;> first | rfl | cases this
    have hrun : (storeVar T ⟨g, i, none⟩ v).run P w = .ok () (w.setCell ⟨g, i, none⟩ v) := by
      obtain ⟨j, hj, hjs⟩ := Option.map_eq_some_iff.1 hs
      simp only [Nat.add_zero] at h1
      simp [storeVar, sizeOf, typeInfo, hj, hjs, hc, h1]
      rfl
    unfold Oper.wp execOp
    simp only [ho, hx, hy, Instr.storeAt, Instr.sureAddr, Sem.run_bind, Sem.run_pure, Result.andThen_ok, hrun]
    exact hK' _ _ (hK _ (hrow.set_ i v) ⟨rfl, rfl, rfl, by simp, fun k _ hr => heap_setCell_other w ⟨g, i, none⟩ k v (by intro e; exact hr (by rw [e]))⟩)
theorem results_cell1 {P : Program} {fn : Func} {p u : Tmp} {ty : TypeId} (h : fn.results = #[.cell p ty, .tmp u]) (tmps : Array Value) (w : World) (g : Nat) (e : TypeId) (cs : Array Value) (fr : Nat × Nat) (d : TypeDesc) (y : Value)
    (hy : tmps.getD u undef = y) (hp : tmps.getD p undef = .pointer (some ⟨g, 0, none⟩)) (hg : w.heap[g]? = some (.cells cs e fr))
    (hu : P.underlying ty = some d) (hd : (match d with | .struct _ | .array _ _ => true | _ => false) = true) (hi : (P.info? ty).map (·.size) = some cs.size) :
    (results fn tmps).run P w = .ok (.tuple #[.agg cs, y]) w := by
  subst hy
  have hp' : tmps[p]?.getD undef = .pointer (some ⟨g, 0, none⟩) := by simpa using hp
  simp [results, h, hp', asAddr, run_loadVar_row w g e ty cs fr d hg hu hd hi]
end Go.Proofs.Ythlapdijnfcekaa
/-
  The walks of the disk's small methods.
-/
namespace Go.Proofs.Ythlapdijnfcekaa
open Go.RowKit

def dptr (p : Nat) : Value := .pointer (some ⟨p, 0, none⟩)
theorem has_yes (i : Int) (p gs : Nat) (vw : Value) (S : Sp) (w : World) (h : HasD w p gs vw S) (hi : 0 ≤ i) (hl : i < (S.secs.length : Int)) :
    Calls Try.prog 36 #[dptr p, .int .i64 i] w fun e w' => e = .returned (.bool true) ∧ w = w' := by
  have c0 := h.c0
  unfold dptr
  go_enter Try.func36, Try.ntmps36
  go_wp2
  go_ret
  exact ⟨by simp, rfl⟩
theorem has_no (i : Int) (p gs : Nat) (vw : Value) (S : Sp) (w : World) (h : HasD w p gs vw S) (hi : ¬ (0 ≤ i ∧ i < (S.secs.length : Int))) :
    Calls Try.prog 36 #[dptr p, .int .i64 i] w fun e w' => e = .returned (.bool false) ∧ w = w' := by
  have c0 := h.c0
  unfold dptr
  by_cases h1 : 0 ≤ i
  · have h2 : ¬ i < (S.secs.length : Int) := fun h2 => hi ⟨h1, h2⟩
    clear hi
    go_enter Try.func36, Try.ntmps36
    go_wp2
    go_ret
    exact ⟨by simp, rfl⟩
  · have h2 : decide (0 ≤ i) = false := by simp; omega
    clear hi
    go_enter Try.func36, Try.ntmps36
    go_wp2
    go_ret
    exact ⟨by simp, rfl⟩
theorem has_any (i : Int) (p gs : Nat) (vw : Value) (S : Sp) (w : World) (h : HasD w p gs vw S) :
    Calls Try.prog 36 #[dptr p, .int .i64 i] w fun e w' => e = .returned (.bool (decide (S.is i))) ∧ w = w' := by
  by_cases hi : S.is i
  · rw [decide_eq_true hi]; exact has_yes i p gs vw S w h hi.1 hi.2
  · rw [decide_eq_false hi]; exact has_no i p gs vw S w h hi
/-- what a call of the disk leaves: its answer; the disk; nothing else has turned -/
def DE (w : World) (p gs : Nat) (vw : Value) (r : Sp × Int) (e : Ending) (w' : World) : Prop :=
  ∃ vw', e = .returned (.int .i64 r.2) ∧ HasD w' p gs vw' r.1 ∧ Fr w w' (fpD p gs vw) ∧ (∀ g, vw'.ownBlock = some g → vw.ownBlock = some g ∨ w.heap.size ≤ g)
theorem power_calls (p gs : Nat) (vw : Value) (S : Sp) (w : World) (h : HasD w p gs vw S) :
    Calls Try.prog 53 #[dptr p] w fun e w' => e = .returned (.tuple #[]) ∧ HasD w' p gs vw { S with on := false, left := 0 } ∧ Fr w w' [p] := by
  have c2 := h.c2
  have c3 := h.c3
  have f2 := h.f 2
  have f3 := h.f 3
  unfold dptr
  go_enter Try.func53, Try.ntmps53
  go_wp2
  go_end0
  have hf : Fr w ((w.setCell ⟨p, 2, none⟩ (.bool false)).setCell ⟨p, 3, none⟩ (.int .i64 0)) [p] := ((Fr.refl w [p]).setCell (p := ⟨p, 2, none⟩) (by simp) _).setCell (p := ⟨p, 3, none⟩) (by simp) _
  exact ⟨rfl, h.put hf ((h.disk.set_ 2 _).set_ 3 _) (by omega) h.wf.less, hf⟩
end Go.Proofs.Ythlapdijnfcekaa
/-
  The walks of step, Fuse, Cut, and of the questions On, Marked, Pending, Steps.
-/
namespace Go.Proofs.Ythlapdijnfcekaa
open Go.RowKit

theorem goes_off (p gs : Nat) (vw : Value) (S : Sp) (w : World) (h : HasD w p gs vw S) (ho : S.on = false) :
    Calls Try.prog 44 #[dptr p] w fun e w' => e = .returned (.int .i64 6) ∧ w = w' := by
  have c2 := h.c2
  rw [ho] at c2
  unfold dptr
  go_enter Try.func44, Try.ntmps44
  go_wp2
  go_ret
  exact ⟨rfl, rfl⟩
theorem goes_one (p gs : Nat) (vw : Value) (S : Sp) (w : World) (h : HasD w p gs vw S) (ho : S.on = true) (hl : S.left = 1) (hc : S.count ≤ 4611686018427387904) :
    Calls Try.prog 44 #[dptr p] w fun e w' => e = .returned (.int .i64 6) ∧ HasD w' p gs vw { S with on := false, left := 0, count := S.count + 1 } ∧ Fr w w' [p] := by
  have c2 := h.c2
  have c3 := h.c3
  have c4 := h.c4
  have f4 := h.f 4
  have hd := h.disk
  rw [ho] at c2
  rw [hl] at c3
  have hf : Fr w (w.setCell ⟨p, 4, none⟩ (.int .i64 ((S.count : Int) + 1))) [p] := (Fr.refl w [p]).setCell (p := ⟨p, 4, none⟩) (by simp) _
  have HN : HasD (w.setCell ⟨p, 4, none⟩ (.int .i64 ((S.count : Int) + 1))) p gs vw { S with count := S.count + 1 } := by
    exact h.put (o2 := S.on) (l := S.left) hf (h.disk.set_ 4 _) h.wf.left (by have := h.wf.less; omega)
  have HF := hid hf
  clear hf hd ho hl
  unfold dptr
  go_enter Try.func44, Try.ntmps44
  go_wp2_with (go_at_call 53; refine (power_calls p gs vw _ _ HN).mono ?_; rintro e w1 ⟨rfl, h1, hf1⟩)
  go_ret
  exact ⟨rfl, h1, HF.out.trans hf1 (by simp)⟩
theorem goes_end (p gs : Nat) (vw : Value) (S : Sp) (w : World) (h : HasD w p gs vw S) (l : Int) (hl : l = ((S.left - 1 : Nat) : Int)) :
    HasD ((w.setCell ⟨p, 4, none⟩ (.int .i64 ((S.count : Int) + 1))).setCell ⟨p, 3, none⟩ (.int .i64 l)) p gs vw { S with left := S.left - 1, count := S.count + 1 } ∧
      Fr w ((w.setCell ⟨p, 4, none⟩ (.int .i64 ((S.count : Int) + 1))).setCell ⟨p, 3, none⟩ (.int .i64 l)) [p] := by
  subst hl
  have hf : Fr w ((w.setCell ⟨p, 4, none⟩ (.int .i64 ((S.count : Int) + 1))).setCell ⟨p, 3, none⟩ (.int .i64 ((S.left - 1 : Nat) : Int))) [p] := ((Fr.refl w [p]).setCell (p := ⟨p, 4, none⟩) (by simp) _).setCell (p := ⟨p, 3, none⟩) (by simp) _
  exact ⟨h.put (o2 := S.on) hf ((h.disk.set_ 4 _).set_ 3 _) (by have := h.wf.left; omega) (by have := h.wf.less; omega), hf⟩
theorem goes_more (p gs : Nat) (vw : Value) (S : Sp) (w : World) (h : HasD w p gs vw S) (ho : S.on = true) (hl : S.left ≠ 1) (hc : S.count ≤ 4611686018427387904) :
    Calls Try.prog 44 #[dptr p] w fun e w' => e = .returned (.int .i64 0) ∧ HasD w' p gs vw { S with left := S.left - 1, count := S.count + 1 } ∧ Fr w w' [p] := by
  have c2 := h.c2
  have c3 := h.c3
  have c4 := h.c4
  have f4 := h.f 4
  have f3 := h.f 3
  have hw := h.wf.left
  rw [ho] at c2
  have hl1 : ((S.left : Int) == 1) = false := by simp; omega
  clear hl ho
  have HE := hid (goes_end p gs vw S w h)
  unfold dptr
  go_enter Try.func44, Try.ntmps44
  go_wp2_with fail
  all_goals (go_ret; exact ⟨rfl, HE.out _ (by omega)⟩)
theorem Sp.goes_off {S : Sp} (h : S.on = false) : S.goes = (S, 6) := by unfold Sp.goes; rw [if_pos h]
theorem Sp.goes_one {S : Sp} (h : S.on = true) (h1 : S.left = 1) : S.goes = ({ S with on := false, left := 0, count := S.count + 1 }, 6) := by
  unfold Sp.goes; rw [if_neg (by simp [h]), if_pos h1]
theorem Sp.goes_more {S : Sp} (h : S.on = true) (h1 : S.left ≠ 1) : S.goes = ({ S with left := S.left - 1, count := S.count + 1 }, 0) := by
  unfold Sp.goes; rw [if_neg (by simp [h]), if_neg h1]
theorem goes_any (p gs : Nat) (vw : Value) (S : Sp) (w : World) (h : HasD w p gs vw S) (hc : S.count ≤ 4611686018427387904) :
    Calls Try.prog 44 #[dptr p] w fun e w' => e = .returned (.int .i64 S.goes.2) ∧ HasD w' p gs vw S.goes.1 ∧ Fr w w' [p] := by
  cases ho : S.on with
  | false =>
    rw [Sp.goes_off ho]
    refine (goes_off p gs vw S w h ho).mono ?_
    rintro e w' ⟨rfl, rfl⟩
    exact ⟨rfl, h, Fr.refl _ _⟩
  | true =>
    by_cases h1 : S.left = 1
    · rw [Sp.goes_one ho h1]
      exact goes_one p gs vw S w h ho h1 hc
    · rw [Sp.goes_more ho h1]
      exact goes_more p gs vw S w h ho h1 hc
/-! ### Fuse, Cut -/
theorem fuse_any (p gs : Nat) (vw : Value) (S : Sp) (n : Int) (w : World) (h : HasD w p gs vw S) (hn : n ≤ 9223372036854775807) :
    Calls Try.prog 10 #[dptr p, .int .i64 n] w fun e w' => e = .returned (.int .i64 (S.fuse n).2) ∧ HasD w' p gs vw (S.fuse n).1 ∧ Fr w w' [p] := by
  have c2 := h.c2
  have c3 := h.c3
  have f3 := h.f 3
  cases ho : S.on with
  | false =>
    rw [ho] at c2
    have e : S.fuse n = (S, 6) := by unfold Sp.fuse; rw [if_pos ho]
    rw [e]
    clear e
    have HO := hid ho
    clear ho
    unfold dptr
    go_enter Try.func10, Try.ntmps10
    go_wp2_with fail
    go_ret
    exact ⟨rfl, h, Fr.refl _ _⟩
  | true =>
    rw [ho] at c2
    have e : S.fuse n = ({ S with left := n.toNat }, 0) := by unfold Sp.fuse; rw [if_neg (by simp [ho])]
    rw [e]
    clear e
    have HO := hid ho
    clear ho
    have HE : Hid (∀ l : Int, l = (n.toNat : Int) → HasD (w.setCell ⟨p, 3, none⟩ (.int .i64 l)) p gs vw { S with left := n.toNat } ∧ Fr w (w.setCell ⟨p, 3, none⟩ (.int .i64 l)) [p]) := by
      intro l hl
      subst hl
      have hf : Fr w (w.setCell ⟨p, 3, none⟩ (.int .i64 (n.toNat : Int))) [p] := (Fr.refl w [p]).setCell (p := ⟨p, 3, none⟩) (by simp) _
      exact ⟨h.put (o2 := S.on) hf (h.disk.set_ 3 _) (by omega) h.wf.less, hf⟩
    unfold dptr
    go_enter Try.func10, Try.ntmps10
    go_wp2_with fail
    all_goals (go_ret; exact ⟨rfl, HE.out _ (by omega)⟩)
/-! ### The questions -/
theorem on_any (p gs : Nat) (vw : Value) (S : Sp) (w : World) (h : HasD w p gs vw S) :
    Calls Try.prog 11 #[dptr p] w fun e w' => e = .returned (.bool S.on) ∧ w = w' := by
  have c2 := h.c2
  unfold dptr
  go_enter Try.func11, Try.ntmps11
  go_wp2
  go_ret
  exact ⟨by simp, rfl⟩
theorem steps_any (p gs : Nat) (vw : Value) (S : Sp) (w : World) (h : HasD w p gs vw S) :
    Calls Try.prog 22 #[dptr p] w fun e w' => e = .returned (.int .i64 (S.count : Int)) ∧ w = w' := by
  have c4 := h.c4
  unfold dptr
  go_enter Try.func22, Try.ntmps22
  go_wp2
  go_ret
  exact ⟨by simp, rfl⟩
theorem vw_shape {w : World} {B : Nat} {e : TypeId} {s : Nat} {v : Value} {n : Nat} {xs : List Value} (h : w.ownsRow B e s v n xs) : ∃ A c, v = .slice A n c := by
  rcases h.2 with ⟨rfl, rfl⟩ | ⟨g, cap, cur, rfl, _⟩
  · exact ⟨_, _, rfl⟩
  · exact ⟨_, _, rfl⟩
end Go.Proofs.Ythlapdijnfcekaa
