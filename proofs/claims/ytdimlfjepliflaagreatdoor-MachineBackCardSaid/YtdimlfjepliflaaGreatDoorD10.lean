/-
  Small words of three layers, for all of them.
-/
import Derived.Test.YtdimlfjepliflaaGreatDoorD09
import Derived.Test.YtdimlfjepliflaaGreatDoorD02
import Derived.Test.YtdimlfjepliflaaGreatDoorD06
import Derived.ChangeSlices
import Derived.Deep.Slices
import Derived.Deep.RegionHeld
import Derived.Laws.StructEq
import Derived.Deep.QuietTactic
import Derived.BigQuiet
import Derived.BigRegion
import Derived.Test.YtdimlfjepliflaaGreatDoorD08
import Derived.Test.YtdimlfjepliflaaGreatDoorD05
namespace Go.Proofs.YtdimlfjepliflaaGreatDoor
open Go.ChangeShapes Go.WideShapes Go.ChangeAt Go.RowKit
set_option maxRecDepth 10000

theorem cellsInt : Tryz.prog.cellsOf 3 = 1 := by kernel_rfl
theorem cellsU64 : Tryz.prog.cellsOf 29 = 1 := by kernel_rfl
theorem cells_get {w : World} {a : Addr} {n : Nat} {cs : List Value} (h : w.cells? 0 a n = some cs) : cs.length = n ∧ ∀ j v, cs[j]? = some v → w.cell? (a.add j) = some v := by
  unfold World.cells? at h
  rw [if_pos (Nat.zero_le _)] at h
  refine ⟨by simpa using mapM_some_length h, fun j v hv => ?_⟩
  have hl : cs.length = n := by simpa using mapM_some_length h
  have hj : j < n := by rw [← hl]; exact (List.getElem?_eq_some_iff.1 hv).1
  have := mapM_some_get h j j (by simp [hj])
  rw [this, hv]
theorem eqF_int {P : Program} {W : World} (d : Nat) (xs ys : Array Value) (f : Field) (fs : List Field) (k : IntKind) (a b : Int) (hn : f.name ≠ "_") (hx : (Go.part f.type xs f.offset).run P W = .ok (.int k a) W) (hy : (Go.part f.type ys f.offset).run P W = .ok (.int k b) W) (ht : P.underlying f.type = some (.int k)) :
    (Op.eqFields (d + 1) xs ys (f :: fs)).run P W = if a = b then (Op.eqFields (d + 1) xs ys fs).run P W else .ok false W := by
  simp only [Op.eqFields, if_pos hn, Sem.run_bind, hx, hy, Result.andThen_ok, run_equalIn_int W d f.type k k a b ht]
  by_cases h : a = b
  · subst h
    simp
  · simp [h]
theorem eqF_nil {P : Program} {W : World} (d : Nat) (xs ys : Array Value) : (Op.eqFields d xs ys []).run P W = .ok true W := by simp [Op.eqFields]
theorem part_int {P : Program} {W : World} (t : TypeId) (xs : Array Value) (i : Nat) (v : Value) (ik : IntKind) (ht : P.underlying t = some (.int ik)) (hs : (P.info? t).map (·.size) = some 1) (hv : xs[i]? = some v) : (Go.part t xs i).run P W = .ok v W := by
  obtain ⟨j, hj, hjs⟩ := Option.map_eq_some_iff.1 hs
  simp [Go.part, isAgg, run_underlying ht, sizeOf, typeInfo, hj, hjs, hv]
theorem sizeInt : (Tryz.prog.info? 3).map (·.size) = some 1 := by kernel_rfl
theorem sizeU64 : (Tryz.prog.info? 29).map (·.size) = some 1 := by kernel_rfl
theorem sizeStr : (Tryz.prog.info? 9).map (·.size) = some 1 := by kernel_rfl
/-- a load under a guard that says yes -/
theorem wpl_load_want {P : Program} {ops : Array Oper} {rest : List Oper} {o : Oper} {a : Act} {w : World} {Q : Exit → Act → World → Prop} (hw : Region.wanted o (yielded ops a.tmps) = true) (ty : TypeId) (x : Operand) (ho : o.op = .load ty x)
    (g : Nat) (hx : a.eval x = .pointer (some ⟨g, 0, none⟩)) (t : TypeId) (cs : Array Value) (fr : Nat × Nat) (d : TypeDesc) (hg : w.heap[g]? = some (.cells cs t fr))
    (hu : P.underlying ty = some d) (hd : (match d with | .struct _ | .array _ _ => true | _ => false) = true) (hi : (P.info? ty).map (·.size) = some cs.size)
    (h : wpList P ops Q rest (a.put o.dst (.agg cs)) w) : wpList P ops Q (o :: rest) a w :=
  BigFrame.wpList_want hw fun _ hK => wp_load_row ty x ho g hx t cs fr d hg hu hd hi (hK _ _ h)
/-- a list, in new memory -/
def LS {α : Type} (C : α → List Value) (w : World) (l : List α) (e : Ending) (w' : World) : Prop :=
  ∃ A c, e = .returned (.slice A l.length c) ∧ l.length ≤ c ∧ Rd w' w'.heap.size A (rows C l) ∧ Below w.heap.size w w' ∧ NewA w A
/-- []T{x}, x a value of many cells, as a step of the walk -/
theorem wpl_slice1 {P : Program} {ops : Array Oper} {rest : List Oper} {o : Oper} {a : Act} {w : World} {Q : Exit → Act → World → Prop} (hgd : o.guard = none) (t e : TypeId) (x : Operand) (ho : o.op = .buildSlice t 1 #[(0, x)])
    (ie : TypeInfo) (z : Value) (size : Nat) (hu : P.underlying t = some (.slice e)) (hie : P.info? e = some ie) (hz : ie.zero = some z) (hs : ie.size = size) (hpos : 0 < size) (hsmall : size ≤ 16777216)
    (cs : List Value) (hx : a.eval x = .agg cs.toArray) (hl : cs.length = size)
    (h : wpList P ops Q rest (a.put o.dst (.slice (some ⟨w.heap.size, 0, none⟩) 1 1)) (w.alloc (.cells cs.toArray e))) : wpList P ops Q (o :: rest) a w :=
  wpList_plain hgd fun _ hK => wp_slice1 t e x ho ie z size hu hie hz hs hpos hsmall cs hx hl (hK _ _ h)
theorem rows1 {α : Type} (C : α → List Value) (x : α) : rows C [x] = C x := by simp [rows]
theorem below_drewN {B : Nat} {w w' : World} (h : Below B w w') (n : Nat) : Below B w (w'.drewN n) := ⟨h.os, h.tape, h.output, h.size, h.block⟩
/-- the world under one name -/
theorem name_wp {P : Program} {c : Code} {Q : Exit → Act → World → Prop} {a : Act} {W : World} (h : ∀ w3, w3 = W → Code.wp P c Q a w3) : Code.wp P c Q a W := h W rfl
theorem ne_nat {a b : Nat} (h : a ≠ b) : ((a : Int) == (b : Int)) = false := beq_eq_false_iff_ne.2 (by omega)
theorem range_of {α : Type} {C : α → List Value} {w : World} {B g o m : Nat} {l : List α} (h : Rd w B (some ⟨g, o, none⟩) (rows C l)) (hC : ∀ x, (C x).length = m) {k : Nat} (hk : k < l.length) : w.rangeAt g (o + k * m) (C l[k]) := h.range hC k hk
theorem shape_of {α : Type} {C : α → List Value} {w : World} {B m : Nat} {A : Option Addr} {l : List α} (h : Rd w B A (rows C l)) (hC : ∀ x, (C x).length = m) (hm : 0 < m) (hl : 0 < l.length) : ∃ g o, A = some ⟨g, o, none⟩ := by
  obtain ⟨g, o, e, _⟩ := h (by
    intro e
    have h1 := rows_len hC l
    rw [e] at h1
    have h2 : 0 < l.length * m := Nat.mul_pos hl hm
    simp at h1
    omega)
  exact ⟨g, o, e⟩
theorem vend {va : Value} {g H cap n : Nat} (h : va.ownBlock = some g ∨ g = H + 1) : ∀ b, (Value.slice (some ⟨g, 0, none⟩) n cap).ownBlock = some b → va.ownBlock = some b ∨ H ≤ b := by
  intro b hb
  obtain rfl : g = b := by simpa [Value.ownBlock] using hb
  rcases h with h | h
  · exact .inl h
  · right; omega
end Go.Proofs.YtdimlfjepliflaaGreatDoor
/-
  Structs that are alike; the walks of the document's SameAccounts, SameTransfers, SameIDs, of equal lists.
-/
namespace Go.Proofs.YtdimlfjepliflaaGreatDoor
open Go.RowKit
set_option maxRecDepth 10000

theorem fieldsAc : (Tryz.prog.fieldsOf 88).toList = [{ name := "ID", type := 29, offset := 0, embedded := false, tag := "", pkgPath := "", byteOffset := 0 }, { name := "Flags", type := 3, offset := 1, embedded := false, tag := "", pkgPath := "", byteOffset := 8 }, { name := "Debits", type := 29, offset := 2, embedded := false, tag := "", pkgPath := "", byteOffset := 16 }, { name := "Credits", type := 29, offset := 3, embedded := false, tag := "", pkgPath := "", byteOffset := 24 }] := by kernel_rfl
theorem eqAc (x : Ac) (W : World) : (Op.equalIn 10000 88 (.agg x.cells.toArray) (.agg x.cells.toArray)).run Tryz.prog W = .ok true W := by
  rw [run_equalIn_struct W 9999 88 x.cells.toArray x.cells.toArray (by kernel_rfl) (by kernel_rfl), fieldsAc]
  have x0 : x.cells.toArray[0]? = some (.int .u64 (x.id : Int)) := rfl
  have x1 : x.cells.toArray[1]? = some (.int .i64 (x.flags : Int)) := rfl
  have x2 : x.cells.toArray[2]? = some (.int .u64 (x.deb : Int)) := rfl
  have x3 : x.cells.toArray[3]? = some (.int .u64 (x.cre : Int)) := rfl
  generalize x.cells.toArray = X at *
  rw [eqF_int (P := Tryz.prog) (W := W) 9998 X X { name := "ID", type := 29, offset := 0, embedded := false, tag := "", pkgPath := "", byteOffset := 0 } _ .u64 (x.id : Int) (x.id : Int) (by simp) (part_int 29 X 0 _ .u64 Tryz.underlying29 sizeU64 x0) (part_int 29 X 0 _ .u64 Tryz.underlying29 sizeU64 x0) Tryz.underlying29, if_pos rfl]
  rw [eqF_int (P := Tryz.prog) (W := W) 9998 X X { name := "Flags", type := 3, offset := 1, embedded := false, tag := "", pkgPath := "", byteOffset := 8 } _ .i64 (x.flags : Int) (x.flags : Int) (by simp) (part_int 3 X 1 _ .i64 Tryz.underlying3 sizeInt x1) (part_int 3 X 1 _ .i64 Tryz.underlying3 sizeInt x1) Tryz.underlying3, if_pos rfl]
  rw [eqF_int (P := Tryz.prog) (W := W) 9998 X X { name := "Debits", type := 29, offset := 2, embedded := false, tag := "", pkgPath := "", byteOffset := 16 } _ .u64 (x.deb : Int) (x.deb : Int) (by simp) (part_int 29 X 2 _ .u64 Tryz.underlying29 sizeU64 x2) (part_int 29 X 2 _ .u64 Tryz.underlying29 sizeU64 x2) Tryz.underlying29, if_pos rfl]
  rw [eqF_int (P := Tryz.prog) (W := W) 9998 X X { name := "Credits", type := 29, offset := 3, embedded := false, tag := "", pkgPath := "", byteOffset := 24 } _ .u64 (x.cre : Int) (x.cre : Int) (by simp) (part_int 29 X 3 _ .u64 Tryz.underlying29 sizeU64 x3) (part_int 29 X 3 _ .u64 Tryz.underlying29 sizeU64 x3) Tryz.underlying29, if_pos rfl]
  rw [eqF_nil]
theorem fieldsTr : (Tryz.prog.fieldsOf 90).toList = [{ name := "ID", type := 29, offset := 0, embedded := false, tag := "", pkgPath := "", byteOffset := 0 }, { name := "Debit", type := 29, offset := 1, embedded := false, tag := "", pkgPath := "", byteOffset := 8 }, { name := "Credit", type := 29, offset := 2, embedded := false, tag := "", pkgPath := "", byteOffset := 16 }, { name := "Amount", type := 29, offset := 3, embedded := false, tag := "", pkgPath := "", byteOffset := 24 }] := by kernel_rfl
theorem eqTr (x : Tr) (W : World) : (Op.equalIn 10000 90 (.agg x.cells.toArray) (.agg x.cells.toArray)).run Tryz.prog W = .ok true W := by
  rw [run_equalIn_struct W 9999 90 x.cells.toArray x.cells.toArray (by kernel_rfl) (by kernel_rfl), fieldsTr]
  have x0 : x.cells.toArray[0]? = some (.int .u64 (x.a : Int)) := rfl
  have x1 : x.cells.toArray[1]? = some (.int .u64 (x.b : Int)) := rfl
  have x2 : x.cells.toArray[2]? = some (.int .u64 (x.c : Int)) := rfl
  have x3 : x.cells.toArray[3]? = some (.int .u64 (x.d : Int)) := rfl
  generalize x.cells.toArray = X at *
  rw [eqF_int (P := Tryz.prog) (W := W) 9998 X X { name := "ID", type := 29, offset := 0, embedded := false, tag := "", pkgPath := "", byteOffset := 0 } _ .u64 (x.a : Int) (x.a : Int) (by simp) (part_int 29 X 0 _ .u64 Tryz.underlying29 sizeU64 x0) (part_int 29 X 0 _ .u64 Tryz.underlying29 sizeU64 x0) Tryz.underlying29, if_pos rfl]
  rw [eqF_int (P := Tryz.prog) (W := W) 9998 X X { name := "Debit", type := 29, offset := 1, embedded := false, tag := "", pkgPath := "", byteOffset := 8 } _ .u64 (x.b : Int) (x.b : Int) (by simp) (part_int 29 X 1 _ .u64 Tryz.underlying29 sizeU64 x1) (part_int 29 X 1 _ .u64 Tryz.underlying29 sizeU64 x1) Tryz.underlying29, if_pos rfl]
  rw [eqF_int (P := Tryz.prog) (W := W) 9998 X X { name := "Credit", type := 29, offset := 2, embedded := false, tag := "", pkgPath := "", byteOffset := 16 } _ .u64 (x.c : Int) (x.c : Int) (by simp) (part_int 29 X 2 _ .u64 Tryz.underlying29 sizeU64 x2) (part_int 29 X 2 _ .u64 Tryz.underlying29 sizeU64 x2) Tryz.underlying29, if_pos rfl]
  rw [eqF_int (P := Tryz.prog) (W := W) 9998 X X { name := "Amount", type := 29, offset := 3, embedded := false, tag := "", pkgPath := "", byteOffset := 24 } _ .u64 (x.d : Int) (x.d : Int) (by simp) (part_int 29 X 3 _ .u64 Tryz.underlying29 sizeU64 x3) (part_int 29 X 3 _ .u64 Tryz.underlying29 sizeU64 x3) Tryz.underlying29, if_pos rfl]
  rw [eqF_nil]
set_option maxHeartbeats 1000000 in
theorem samea_any (A A' : Option Addr) (l : List Ac) (n c c' B : Nat) (w : World) (hr : Rd w B A (rows Ac.cells l)) (hr' : Rd w B A' (rows Ac.cells l)) (hn : n = l.length) (hc : n ≤ c) (hc' : n ≤ c') (hB : B ≤ w.heap.size) (hb : n ≤ 140737488355328) :
    Calls Tryz.prog 21 #[.slice A n c, .slice A' n c'] w (VE w (.bool true)) := by
  by_cases h0 : n = 0
  · subst h0
    clear hr hr'
    go_enter Tryz.func21, Tryz.ntmps21
    go_wp2_with fail
    go_loop [5] (fun i => i = .int .i64 0) (fun _ => 0)
    case atStart => rfl
    case round =>
      obtain rfl := hrel
      go_wp2_with fail
      go_ret
      exact ⟨rfl, Below.refl _ _⟩
  have hlen := rows_len (C := Ac.cells) Ac.len l
  obtain ⟨g, o, rfl, hg, hx⟩ := id hr (by intro e; rw [e] at hlen; simp at hlen; omega)
  obtain ⟨g', o', rfl, hg', hx'⟩ := id hr' (by intro e; rw [e] at hlen; simp at hlen; omega)
  clear hx hx' hlen
  have HR := hid hr
  have HR' := hid hr'
  have HN := hid hn
  have hEG : Tryz.prog.eqGuardType Tryz.prog.depth 88 = false := by kernel_rfl
  have HZ := hid acSize
  clear hr hr' hn
  go_enter Tryz.func21, Tryz.ntmps21
  go_wp2_with fail
  go_loopw [5] (fun i wr => ∃ k : Nat, k ≤ n ∧ i = .int .i64 (k : Int) ∧ Below w.heap.size w wr) (fun i _ => n - (intOf i).toNat)
  case atStart => exact ⟨0, by omega, rfl, Below.refl _ _⟩
  case round =>
    obtain ⟨k, hk, rfl, hbe⟩ := hrel
    have HBE := hid hbe
    by_cases hlt : k < n
    · have hkl : k < l.length := by rw [← HN.out]; exact hlt
      have hrg := fun W (hW : Below w.heap.size w W) => ((HR.out.below hW hB).range Ac.len k hkl)
      have hrg' := fun W (hW : Below w.heap.size w W) => ((HR'.out.below hW hB).range Ac.len k hkl)
      have hi : (k : Int) < (n : Int) := by omega
      have hi0 : (0 : Int) ≤ (k : Int) := by omega
      have hEQ := eqAc l[k]
      have hC4 : (Ac.cells l[k]).length = 4 := rfl
      generalize Ac.cells l[k] = X at *
      have HC4 := hid hC4
      have HRG := hid hrg
      have HRG' := hid hrg'
      clear hC4 hrg hrg' hbe
      go_wp2_with fail
      refine wp_region_held_drew (S := fun w' => Below w.heap.size w w') (by kernel_rfl) HBE.out.drew (fun hH => ?_)
      refine wpAnyH_take (i := 0) (v := .slice (some ⟨g, o, none⟩) n c) rfl (by kernel_rfl) (by kernel_rfl) (by kernel_rfl) (fun _ _ _ h => h) (Or.inl ⟨by rfl, fun w' hw' => by clear hw' ; go_simp⟩) hH ?_
      simp only [Act.put]
      refine wpAnyH_take (i := 1) (v := .int .i64 (k : Int)) rfl (by kernel_rfl) (by kernel_rfl) (by kernel_rfl) (fun _ _ _ h => h) (Or.inl ⟨by rfl, fun w' hw' => by clear hw' ; go_simp⟩) hH ?_
      simp only [Act.put]
      refine wpAnyH_take (i := 2) (v := .pointer (some ⟨g, o + k * 4, none⟩)) rfl (by kernel_rfl) (by kernel_rfl) (by kernel_rfl) (fun _ _ _ h => h) (Or.inl ⟨by rfl, fun w' hw' => by clear hw' ; go_simp⟩) hH ?_
      simp only [Act.put]
      refine wpAnyH_take (i := 3) (v := .agg X.toArray) rfl (by kernel_rfl) (by kernel_rfl) (by kernel_rfl) (fun _ _ _ h => h) (yieldsIf_load_mid rfl 88 (.tmp 19) rfl g (o + k * 4) rfl X _ (fun W hW => HRG.out W hW) Tryz.underlying88 rfl (by rw [HC4.out]; exact HZ.out)) hH ?_
      simp only [Act.put]
      refine wpAnyH_take (i := 4) (v := .slice (some ⟨g', o', none⟩) n c') rfl (by kernel_rfl) (by kernel_rfl) (by kernel_rfl) (fun _ _ _ h => h) (Or.inl ⟨by rfl, fun w' hw' => by clear hw' ; go_simp⟩) hH ?_
      simp only [Act.put]
      refine wpAnyH_take (i := 5) (v := .int .i64 (k : Int)) rfl (by kernel_rfl) (by kernel_rfl) (by kernel_rfl) (fun _ _ _ h => h) (Or.inl ⟨by rfl, fun w' hw' => by clear hw' ; go_simp⟩) hH ?_
      simp only [Act.put]
      refine wpAnyH_take (i := 6) (v := .pointer (some ⟨g', o' + k * 4, none⟩)) rfl (by kernel_rfl) (by kernel_rfl) (by kernel_rfl) (fun _ _ _ h => h) (Or.inl ⟨by rfl, fun w' hw' => by clear hw' ; go_simp⟩) hH ?_
      simp only [Act.put]
      refine wpAnyH_take (i := 7) (v := .agg X.toArray) rfl (by kernel_rfl) (by kernel_rfl) (by kernel_rfl) (fun _ _ _ h => h) (yieldsIf_load_mid rfl 88 (.tmp 23) rfl g' (o' + k * 4) rfl X _ (fun W hW => HRG'.out W hW) Tryz.underlying88 rfl (by rw [HC4.out]; exact HZ.out)) hH ?_
      simp only [Act.put]
      refine wpAnyH_ready (rs := [8]) (by kernel_rfl) (by simp) ?_
      refine AllReadyH.cons rfl (fun K hK => ?_) AllReadyH.nil
      go_simp
      refine hK.out _ _ (hH) (fun hH => ?_)
      clear hK K
      try simp only [Act.put]
      refine wpAnyH_done (by kernel_rfl) ?_ _
      try simp only [Act.put]
      go_wp2_with fail
      exact ⟨⟨k + 1, by omega, by go_num, hH⟩, by simp [intOf]; omega⟩
    · obtain rfl : k = n := by omega
      go_wp2_with fail
      go_ret
      exact ⟨rfl, HBE.out⟩
set_option maxHeartbeats 1000000 in
theorem samet_any (A A' : Option Addr) (l : List Tr) (n c c' B : Nat) (w : World) (hr : Rd w B A (rows Tr.cells l)) (hr' : Rd w B A' (rows Tr.cells l)) (hn : n = l.length) (hc : n ≤ c) (hc' : n ≤ c') (hB : B ≤ w.heap.size) (hb : n ≤ 140737488355328) :
    Calls Tryz.prog 23 #[.slice A n c, .slice A' n c'] w (VE w (.bool true)) := by
  by_cases h0 : n = 0
  · subst h0
    clear hr hr'
    go_enter Tryz.func23, Tryz.ntmps23
    go_wp2_with fail
    go_loop [5] (fun i => i = .int .i64 0) (fun _ => 0)
    case atStart => rfl
    case round =>
      obtain rfl := hrel
      go_wp2_with fail
      go_ret
      exact ⟨rfl, Below.refl _ _⟩
  have hlen := rows_len (C := Tr.cells) Tr.len l
  obtain ⟨g, o, rfl, hg, hx⟩ := id hr (by intro e; rw [e] at hlen; simp at hlen; omega)
  obtain ⟨g', o', rfl, hg', hx'⟩ := id hr' (by intro e; rw [e] at hlen; simp at hlen; omega)
  clear hx hx' hlen
  have HR := hid hr
  have HR' := hid hr'
  have HN := hid hn
  have hEG : Tryz.prog.eqGuardType Tryz.prog.depth 90 = false := by kernel_rfl
  have HZ := hid trSize
  clear hr hr' hn
  go_enter Tryz.func23, Tryz.ntmps23
  go_wp2_with fail
  go_loopw [5] (fun i wr => ∃ k : Nat, k ≤ n ∧ i = .int .i64 (k : Int) ∧ Below w.heap.size w wr) (fun i _ => n - (intOf i).toNat)
  case atStart => exact ⟨0, by omega, rfl, Below.refl _ _⟩
  case round =>
    obtain ⟨k, hk, rfl, hbe⟩ := hrel
    have HBE := hid hbe
    by_cases hlt : k < n
    · have hkl : k < l.length := by rw [← HN.out]; exact hlt
      have hrg := fun W (hW : Below w.heap.size w W) => ((HR.out.below hW hB).range Tr.len k hkl)
      have hrg' := fun W (hW : Below w.heap.size w W) => ((HR'.out.below hW hB).range Tr.len k hkl)
      have hi : (k : Int) < (n : Int) := by omega
      have hi0 : (0 : Int) ≤ (k : Int) := by omega
      have hEQ := eqTr l[k]
      have hC4 : (Tr.cells l[k]).length = 4 := rfl
      generalize Tr.cells l[k] = X at *
      have HC4 := hid hC4
      have HRG := hid hrg
      have HRG' := hid hrg'
      clear hC4 hrg hrg' hbe
      go_wp2_with fail
      refine wp_region_held_drew (S := fun w' => Below w.heap.size w w') (by kernel_rfl) HBE.out.drew (fun hH => ?_)
      refine wpAnyH_take (i := 0) (v := .slice (some ⟨g, o, none⟩) n c) rfl (by kernel_rfl) (by kernel_rfl) (by kernel_rfl) (fun _ _ _ h => h) (Or.inl ⟨by rfl, fun w' hw' => by clear hw' ; go_simp⟩) hH ?_
      simp only [Act.put]
      refine wpAnyH_take (i := 1) (v := .int .i64 (k : Int)) rfl (by kernel_rfl) (by kernel_rfl) (by kernel_rfl) (fun _ _ _ h => h) (Or.inl ⟨by rfl, fun w' hw' => by clear hw' ; go_simp⟩) hH ?_
      simp only [Act.put]
      refine wpAnyH_take (i := 2) (v := .pointer (some ⟨g, o + k * 4, none⟩)) rfl (by kernel_rfl) (by kernel_rfl) (by kernel_rfl) (fun _ _ _ h => h) (Or.inl ⟨by rfl, fun w' hw' => by clear hw' ; go_simp⟩) hH ?_
      simp only [Act.put]
      refine wpAnyH_take (i := 3) (v := .agg X.toArray) rfl (by kernel_rfl) (by kernel_rfl) (by kernel_rfl) (fun _ _ _ h => h) (yieldsIf_load_mid rfl 90 (.tmp 19) rfl g (o + k * 4) rfl X _ (fun W hW => HRG.out W hW) Tryz.underlying90 rfl (by rw [HC4.out]; exact HZ.out)) hH ?_
      simp only [Act.put]
      refine wpAnyH_take (i := 4) (v := .slice (some ⟨g', o', none⟩) n c') rfl (by kernel_rfl) (by kernel_rfl) (by kernel_rfl) (fun _ _ _ h => h) (Or.inl ⟨by rfl, fun w' hw' => by clear hw' ; go_simp⟩) hH ?_
      simp only [Act.put]
      refine wpAnyH_take (i := 5) (v := .int .i64 (k : Int)) rfl (by kernel_rfl) (by kernel_rfl) (by kernel_rfl) (fun _ _ _ h => h) (Or.inl ⟨by rfl, fun w' hw' => by clear hw' ; go_simp⟩) hH ?_
      simp only [Act.put]
      refine wpAnyH_take (i := 6) (v := .pointer (some ⟨g', o' + k * 4, none⟩)) rfl (by kernel_rfl) (by kernel_rfl) (by kernel_rfl) (fun _ _ _ h => h) (Or.inl ⟨by rfl, fun w' hw' => by clear hw' ; go_simp⟩) hH ?_
      simp only [Act.put]
      refine wpAnyH_take (i := 7) (v := .agg X.toArray) rfl (by kernel_rfl) (by kernel_rfl) (by kernel_rfl) (fun _ _ _ h => h) (yieldsIf_load_mid rfl 90 (.tmp 23) rfl g' (o' + k * 4) rfl X _ (fun W hW => HRG'.out W hW) Tryz.underlying90 rfl (by rw [HC4.out]; exact HZ.out)) hH ?_
      simp only [Act.put]
      refine wpAnyH_ready (rs := [8]) (by kernel_rfl) (by simp) ?_
      refine AllReadyH.cons rfl (fun K hK => ?_) AllReadyH.nil
      go_simp
      refine hK.out _ _ (hH) (fun hH => ?_)
      clear hK K
      try simp only [Act.put]
      refine wpAnyH_done (by kernel_rfl) ?_ _
      try simp only [Act.put]
      go_wp2_with fail
      exact ⟨⟨k + 1, by omega, by go_num, hH⟩, by simp [intOf]; omega⟩
    · obtain rfl : k = n := by omega
      go_wp2_with fail
      go_ret
      exact ⟨rfl, HBE.out⟩
end Go.Proofs.YtdimlfjepliflaaGreatDoor
/-
  The laws' argument: a list of operations, as it reads.
-/
namespace Go.Proofs.YtdimlfjepliflaaGreatDoor
open Go.ChangeShapes Go.WideShapes Go.ChangeAt Go.RowKit
set_option maxRecDepth 10000

structure Ab where
  op : Int
  body : ByteArray
def Ab.cells (x : Ab) : List Value := [.int .i64 x.op, .string x.body]
theorem Ab.len (x : Ab) : x.cells.length = 2 := rfl
section
variable {H : Type} {enc : TypeId × Value → H} {W : World}
end
end Go.Proofs.YtdimlfjepliflaaGreatDoor
