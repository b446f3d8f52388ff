/-
  The document's Kept.
-/
import Derived.Test.YteahbalcielhpaaGreatDoorZ14
import Derived.Deep.MidRow
namespace Go.Proofs.YteahbalcielhpaaGreatDoor
open Go.RowKit
set_option maxRecDepth 10000

theorem gtransM {r : Option Nat} {w w' w'' : World} (h : w.grownBy w' r) (h' : w'.grownBy w'' r) : w.grownBy w'' r :=
  ⟨h'.os.trans h.os, h'.tape.trans h.tape, h'.output.trans h.output, Nat.le_trans h.size h'.size, fun k hk hr => (h'.block k (Nat.lt_of_lt_of_le hk h.size) hr).trans (h.block k hk hr)⟩
theorem gsetM (w : World) (g i : Nat) (u : Value) : w.grownBy (w.setCell ⟨g, i, none⟩ u) (some g) :=
  ⟨rfl, rfl, rfl, by simp, fun k _ hr => heap_setCell_other w ⟨g, i, none⟩ k u (by intro e; exact hr (by rw [e]))⟩
theorem setCellsM {w : World} {g : Nat} {e : TypeId} {xs : List Value} (h : Row w g e xs) : ∀ (vs : List Value) (o : Nat), o + vs.length ≤ xs.length → Row (w.setCells g o vs) g e (splice xs o vs) ∧ w.grownBy (w.setCells g o vs) (some g)
  | [], o, ho => ⟨by simpa [splice, World.setCells] using h, World.grownBy.refl _ _⟩
  | v :: r, o, ho => by
    simp only [List.length_cons] at ho
    obtain ⟨h1, h2⟩ := setCellsM (h.set_ o v) r (o + 1) (by rw [List.length_set]; omega)
    have e : splice (xs.set o v) (o + 1) r = splice xs o (v :: r) := by
      unfold splice
      have hk : o < xs.length := by omega
      rw [List.drop_set_of_lt (by omega), List.take_succ_eq_append_getElem (by simpa using hk), List.take_set_of_le (Nat.le_refl _)]
      simp [Nat.add_assoc, Nat.add_comm 1]
    rw [e] at h1
    exact ⟨h1, gtransM (gsetM _ _ _ _) h2⟩
theorem thereM {w : World} {g : Nat} {e : TypeId} {xs : List Value} (h : Row w g e xs) (o n : Nat) (ho : o + n ≤ xs.length) : w.there g o n := fun j hj => by
  rw [h.cell, List.getElem?_eq_getElem (by omega)]
  exact ⟨rfl, h.frozen _⟩
/-- a struct is stored into a struct -/
theorem wpl_store_at {P : Program} {ops : Array Oper} {rest : List Oper} {o : Oper} {a : Act} {w : World} {Q : Exit → Act → World → Prop} (hgd : o.guard = none) {T T' : TypeId} (x y : Operand) (ho : o.op = .store T x y) {m : Nat} (hm : (P.info? T).map (·.size) = some m)
    (g k : Nat) (cs ds : List Value) (hx : a.eval x = .pointer (some ⟨g, k, none⟩)) (hy : a.eval y = .agg ds.toArray) (hrow : Hid (Row w g T' cs))
    (hK : ∀ w', Hid (Row w' g T' (splice cs k ds)) → w.grownBy w' (some g) → wpList P ops Q rest (a.put o.dst undef) w')
    (hc : Hid (k + ds.length ≤ cs.length)) (hd : Hid (ds.length = m)) (hone : Hid (ds.all (·.oneCell') = true)) : wpList P ops Q (o :: rest) a w := by
  obtain ⟨h1, h2⟩ := setCellsM hrow.out ds k hc.out
  exact wpList_store_mid hgd T x y ho g k ds.toArray hx hy (by rw [List.size_toArray]; exact thereM hrow.out _ _ hc.out) (by rw [List.size_toArray, hd.out]; exact hm) (by simpa using hone.out) (hK _ (hid h1) h2)
theorem sizeSlE : (Tryz.prog.info? 28).map (·.size) = some 1 := by kernel_rfl
theorem sizeSlI : (Tryz.prog.info? 43).map (·.size) = some 1 := by kernel_rfl
def z33 : Array Value := #[.int .i64 0, .int .i64 0, .int .i64 0, .int .i64 0, .int .i64 0, .int .i64 0, .int .i64 0, .int .i64 0, .int .i64 0, .int .i64 0, .int .i64 0, .int .i64 0, .int .i64 0, .int .i64 0, .int .u64 0, .int .u64 0, .int .u64 0, .int .u64 0, .int .u64 0, .int .u64 0, .int .u64 0, .int .i64 0, .int .i64 0, .int .i64 0, .int .u64 0, .int .i64 0, .int .i64 0, .int .i64 0, .int .i64 0, .string ⟨#[]⟩, .slice none 0 0, .slice none 0 0, .string ⟨#[]⟩]
def x33 (k f : Int) : List Value := [.int .i64 k, .int .i64 f, .int .i64 0, .int .i64 0, .int .i64 0, .int .i64 0, .int .i64 0, .int .i64 0, .int .i64 0, .int .i64 0, .int .i64 0, .int .i64 0, .int .i64 0, .int .i64 0, .int .u64 0, .int .u64 0, .int .u64 0, .int .u64 0, .int .u64 0, .int .u64 0, .int .u64 0, .int .i64 0, .int .i64 0, .int .i64 0, .int .u64 0, .int .i64 0, .int .i64 0, .int .i64 0, .int .i64 0, .string ⟨#[]⟩, .slice none 0 0, .slice none 0 0, .string ⟨#[]⟩]
def keptP (m : Ms) (p : Pl) : Pl := ⟨if kEs m.kind then p.A else none, if kEs m.kind then p.cA else 0, if kLog m.kind then p.B else none, if kLog m.kind then p.cB else 0⟩
theorem zero33 (w : World) : (zeroValue 45).run Tryz.prog w = .ok (.agg z33) w := by kernel_rfl
theorem z33_size : z33.size = 33 := rfl
theorem z33_ne : z33 ≠ #[] := by simp [z33]
/-- a store of one cell -/
theorem wpl_st1 {P : Program} {ops : Array Oper} {rest : List Oper} {o : Oper} {a : Act} {w : World} {Q : Exit → Act → World → Prop} (hgd : o.guard = none) (T : TypeId) (x y : Operand) (ho : o.op = .store T x y)
    (g i : Nat) (v : Value) (hx : a.eval x = .pointer (some ⟨g, i, none⟩)) (hy : a.eval y = v) {E : TypeId} {xs : List Value} (hrow : Hid (Row w g E xs)) (hs : (P.info? T).map (·.size) = some 1)
    (hK : ∀ w', Hid (Row w' g E (xs.set i v)) → w.grownBy w' (some g) → wpList P ops Q rest (a.put o.dst undef) w')
    (hi : Hid (i < xs.length)) (hone : Hid (v.oneCell' = true)) : wpList P ops Q (o :: rest) a w :=
  wpl_store_c hgd T x y ho g i v hx hy hrow.out hs (fun w' h1 h2 => hK w' (hid h1) h2) hi hone
set_option maxHeartbeats 4000000 in
theorem kept_1 (m : Ms) (p : Pl) (w : World) (hk : m.kind = 1) : Calls Tryz.prog 40 #[.agg (m.cells p)] w (VE w (.agg ((keptM m).cells (keptP m p)))) := by
  have HZS := hid mssize
  have hz := zero33
  have hzs := z33_size
  have hzn := z33_ne
  have R1 : Hid (Row ((w.alloc (.cells (m.cells p) 45)).alloc (.cells z33 45)) w.heap.size 45 (m.cells p).toList) := hid ((Row.new w 45 (m.cells p)).alloc _)
  have R2 : Hid (Row ((w.alloc (.cells (m.cells p) 45)).alloc (.cells z33 45)) (w.heap.size + 1) 45 z33.toList) := hid (by
    have := Row.new (w.alloc (.cells (m.cells p) 45)) 45 z33
    simpa using this)
  have R3 : Hid (Row (((w.alloc (.cells (m.cells p) 45)).alloc (.cells z33 45)).alloc (.cells z33 45)) (w.heap.size + 1 + 1) 45 z33.toList) := hid (by
    have := Row.new ((w.alloc (.cells (m.cells p) 45)).alloc (.cells z33 45)) 45 z33
    simpa using this)
  have HB : Hid (Below w.heap.size w (((w.alloc (.cells (m.cells p) 45)).alloc (.cells z33 45)).alloc (.cells z33 45))) := hid ((((Below.refl _ _).alloc (Nat.le_refl _) _).alloc (by simp) _).alloc (by simp; omega) _)
  have a0 : ((w.alloc (.cells (m.cells p) 45)).alloc (.cells z33 45)).cell? ⟨w.heap.size, 0, none⟩ = some (.int .i64 1) := by
    rw [R1.out.cell 0]
    show some (Value.int .i64 m.kind) = _
    rw [hk]
  have a1 : ((w.alloc (.cells (m.cells p) 45)).alloc (.cells z33 45)).cell? ⟨w.heap.size, 1, none⟩ = some (.int .i64 m.frm) := R1.out.cell 1
  have HK := hid hk
  have HX0 : Hid (((z33.setIfInBounds 0 (.int .i64 1)).setIfInBounds 1 (.int .i64 m.frm)).all (·.oneCell') = true) := hid (by
    rw [show (z33.setIfInBounds 0 (.int .i64 1)).setIfInBounds 1 (.int .i64 m.frm) = (x33 1 m.frm).toArray from rfl]
    simp [x33, Value.oneCell'])
  clear hk
  go_enter Tryz.func40, Tryz.ntmps40
  go_wp2_with (first
    | ((with_reducible show wpList _ _ _ ({ dst := none, op := .store _ (.tmp 4) _, type := _, pos := _, after := _, guard := _ } :: _) _ _); refine wpl_store_st rfl (.tmp 4) (.tmp 10) rfl HZS.out (w.heap.size + 1 + 1) z33 ((z33.setIfInBounds 0 (.int .i64 1)).setIfInBounds 1 (.int .i64 m.frm)) rfl rfl R3.out ?_ (hid rfl) (hid (by simp [z33])) HX0; intro w3 hr3 hg3; have R := hid ((R1.out.alloc (.cells z33 45)).grown hg3 (by simp; omega)); have S := hid ((R2.out.alloc (.cells z33 45)).grown hg3 (by simp)); have X : Hid (Row w3 (w.heap.size + 1 + 1) 45 (x33 1 m.frm)) := hid hr3; replace HB := hid (HB.out.trans (below_grown hg3 (by omega) HB.out.size)); have c6 : w3.cell? ⟨w.heap.size, 6, none⟩ = some (.int .i64 m.client) := R.out.cell 6; clear hr3 hg3 R1 R2 R3 a0 a1)
    | ((with_reducible show wpList _ _ _ ({ dst := none, op := .store _ (.tmp 102) _, type := _, pos := _, after := _, guard := _ } :: _) _ _); refine wpl_st1 rfl 3 (.tmp 102) (.tmp 101) rfl (w.heap.size + 1 + 1) 6 (.int .i64 m.client) rfl rfl X sizeInt ?_ (hid (by simp [x33])) (hid rfl); clear c6; intro w4 X hg; replace R := hid (R.out.grown hg (by simp; omega)); replace S := hid (S.out.grown hg (by simp)); replace HB := hid (HB.out.trans (below_grown hg (by omega) HB.out.size)); have c7 : w4.cell? ⟨w.heap.size, 7, none⟩ = some (.int .i64 m.session) := R.out.cell 7; clear hg)
    | ((with_reducible show wpList _ _ _ ({ dst := none, op := .store _ (.tmp 105) _, type := _, pos := _, after := _, guard := _ } :: _) _ _); refine wpl_st1 rfl 3 (.tmp 105) (.tmp 104) rfl (w.heap.size + 1 + 1) 7 (.int .i64 m.session) rfl rfl X sizeInt ?_ (hid (by simp [x33])) (hid rfl); clear c7; intro w5 X hg; replace R := hid (R.out.grown hg (by simp; omega)); replace S := hid (S.out.grown hg (by simp)); replace HB := hid (HB.out.trans (below_grown hg (by omega) HB.out.size)); have c8 : w5.cell? ⟨w.heap.size, 8, none⟩ = some (.int .i64 m.request) := R.out.cell 8; clear hg)
    | ((with_reducible show wpList _ _ _ ({ dst := none, op := .store _ (.tmp 108) _, type := _, pos := _, after := _, guard := _ } :: _) _ _); refine wpl_st1 rfl 3 (.tmp 108) (.tmp 107) rfl (w.heap.size + 1 + 1) 8 (.int .i64 m.request) rfl rfl X sizeInt ?_ (hid (by simp [x33])) (hid rfl); clear c8; intro w6 X hg; replace R := hid (R.out.grown hg (by simp; omega)); replace S := hid (S.out.grown hg (by simp)); replace HB := hid (HB.out.trans (below_grown hg (by omega) HB.out.size)); have c9 : w6.cell? ⟨w.heap.size, 9, none⟩ = some (.int .i64 m.oper) := R.out.cell 9; clear hg)
    | ((with_reducible show wpList _ _ _ ({ dst := none, op := .store _ (.tmp 113) _, type := _, pos := _, after := _, guard := _ } :: _) _ _); refine wpl_st1 rfl 3 (.tmp 113) (.tmp 112) rfl (w.heap.size + 1 + 1) 9 (.int .i64 m.oper) rfl rfl X sizeInt ?_ (hid (by simp [x33])) (hid rfl); clear c9; intro w7 X hg; replace R := hid (R.out.grown hg (by simp; omega)); replace S := hid (S.out.grown hg (by simp)); replace HB := hid (HB.out.trans (below_grown hg (by omega) HB.out.size)); have c32 : w7.cell? ⟨w.heap.size, 32, none⟩ = some (.string m.body) := R.out.cell 32; clear hg)
    | ((with_reducible show wpList _ _ _ ({ dst := none, op := .store _ (.tmp 178) _, type := _, pos := _, after := _, guard := _ } :: _) _ _); refine wpl_st1 rfl 9 (.tmp 178) (.tmp 177) rfl (w.heap.size + 1 + 1) 32 (.string m.body) rfl rfl X sizeStr ?_ (hid (by simp [x33])) (hid rfl); clear c32; intro w8 X hg; replace R := hid (R.out.grown hg (by simp; omega)); replace S := hid (S.out.grown hg (by simp)); replace HB := hid (HB.out.trans (below_grown hg (by omega) HB.out.size)); clear hg)
    | ((with_reducible show wpList _ _ _ ({ dst := some 179, op := _, type := _, pos := _, after := _, guard := _ } :: _) _ _); refine wpList_load_row rfl 45 (.tmp 4) rfl (w.heap.size + 1 + 1) rfl 45 ((keptM m).cells (keptP m p)) (0, 0) _ (Row.arr (by
        have h := X.out
        have e : (List.set (List.set (List.set (List.set (List.set (x33 1 m.frm) 6 (.int .i64 m.client)) 7 (.int .i64 m.session)) 8 (.int .i64 m.request)) 9 (.int .i64 m.oper)) 32 (.string m.body)) = ((keptM m).cells (keptP m p)).toList := by
          simp only [keptM, keptP, HK.out]
          rfl
        rw [e] at h
        exact h)) Tryz.underlying45 rfl HZS.out ?_)
    | ((with_reducible show wpList _ _ _ ({ dst := none, op := .store _ (.tmp 2) _, type := _, pos := _, after := _, guard := _ } :: _) _ _); refine wpl_store_st rfl (.tmp 2) (.tmp 179) rfl HZS.out (w.heap.size + 1) z33 ((keptM m).cells (keptP m p)) rfl rfl S.out ?_ (hid rfl) (hid rfl) (hid (by simp [Ms.cells, Value.oneCell'])); intro wz hrz hgz; replace HB := hid (HB.out.trans (below_grown hgz (by omega) HB.out.size))))
  refine bodyPost_ret (v := .agg ((keptM m).cells (keptP m p))) (results_cell_row rfl _ _ (w.heap.size + 1) 45 _ (0, 0) _ rfl (Row.arr hrz) Tryz.underlying45 rfl HZS.out) rfl ⟨rfl, HB.out⟩
set_option maxHeartbeats 4000000 in
theorem kept_2 (m : Ms) (p : Pl) (w : World) (hk : m.kind = 2) : Calls Tryz.prog 40 #[.agg (m.cells p)] w (VE w (.agg ((keptM m).cells (keptP m p)))) := by
  have HZS := hid mssize
  have hz := zero33
  have hzs := z33_size
  have hzn := z33_ne
  have R1 : Hid (Row ((w.alloc (.cells (m.cells p) 45)).alloc (.cells z33 45)) w.heap.size 45 (m.cells p).toList) := hid ((Row.new w 45 (m.cells p)).alloc _)
  have R2 : Hid (Row ((w.alloc (.cells (m.cells p) 45)).alloc (.cells z33 45)) (w.heap.size + 1) 45 z33.toList) := hid (by
    have := Row.new (w.alloc (.cells (m.cells p) 45)) 45 z33
    simpa using this)
  have R3 : Hid (Row (((w.alloc (.cells (m.cells p) 45)).alloc (.cells z33 45)).alloc (.cells z33 45)) (w.heap.size + 1 + 1) 45 z33.toList) := hid (by
    have := Row.new ((w.alloc (.cells (m.cells p) 45)).alloc (.cells z33 45)) 45 z33
    simpa using this)
  have HB : Hid (Below w.heap.size w (((w.alloc (.cells (m.cells p) 45)).alloc (.cells z33 45)).alloc (.cells z33 45))) := hid ((((Below.refl _ _).alloc (Nat.le_refl _) _).alloc (by simp) _).alloc (by simp; omega) _)
  have a0 : ((w.alloc (.cells (m.cells p) 45)).alloc (.cells z33 45)).cell? ⟨w.heap.size, 0, none⟩ = some (.int .i64 2) := by
    rw [R1.out.cell 0]
    show some (Value.int .i64 m.kind) = _
    rw [hk]
  have a1 : ((w.alloc (.cells (m.cells p) 45)).alloc (.cells z33 45)).cell? ⟨w.heap.size, 1, none⟩ = some (.int .i64 m.frm) := R1.out.cell 1
  have HK := hid hk
  have HX0 : Hid (((z33.setIfInBounds 0 (.int .i64 2)).setIfInBounds 1 (.int .i64 m.frm)).all (·.oneCell') = true) := hid (by
    rw [show (z33.setIfInBounds 0 (.int .i64 2)).setIfInBounds 1 (.int .i64 m.frm) = (x33 2 m.frm).toArray from rfl]
    simp [x33, Value.oneCell'])
  clear hk
  go_enter Tryz.func40, Tryz.ntmps40
  go_wp2_with (first
    | ((with_reducible show wpList _ _ _ ({ dst := none, op := .store _ (.tmp 4) _, type := _, pos := _, after := _, guard := _ } :: _) _ _); refine wpl_store_st rfl (.tmp 4) (.tmp 10) rfl HZS.out (w.heap.size + 1 + 1) z33 ((z33.setIfInBounds 0 (.int .i64 2)).setIfInBounds 1 (.int .i64 m.frm)) rfl rfl R3.out ?_ (hid rfl) (hid (by simp [z33])) HX0; intro w3 hr3 hg3; have R := hid ((R1.out.alloc (.cells z33 45)).grown hg3 (by simp; omega)); have S := hid ((R2.out.alloc (.cells z33 45)).grown hg3 (by simp)); have X : Hid (Row w3 (w.heap.size + 1 + 1) 45 (x33 2 m.frm)) := hid hr3; replace HB := hid (HB.out.trans (below_grown hg3 (by omega) HB.out.size)); have c2 : w3.cell? ⟨w.heap.size, 2, none⟩ = some (.int .i64 m.view) := R.out.cell 2; clear hr3 hg3 R1 R2 R3 a0 a1)
    | ((with_reducible show wpList _ _ _ ({ dst := none, op := .store _ (.tmp 47) _, type := _, pos := _, after := _, guard := _ } :: _) _ _); refine wpl_st1 rfl 3 (.tmp 47) (.tmp 46) rfl (w.heap.size + 1 + 1) 2 (.int .i64 m.view) rfl rfl X sizeInt ?_ (hid (by simp [x33])) (hid rfl); clear c2; intro w4 X hg; replace R := hid (R.out.grown hg (by simp; omega)); replace S := hid (S.out.grown hg (by simp)); replace HB := hid (HB.out.trans (below_grown hg (by omega) HB.out.size)); have c5 : w4.cell? ⟨w.heap.size, 5, none⟩ = some (.int .i64 m.commit) := R.out.cell 5; clear hg)
    | ((with_reducible show wpList _ _ _ ({ dst := none, op := .store _ (.tmp 89) _, type := _, pos := _, after := _, guard := _ } :: _) _ _); refine wpl_st1 rfl 3 (.tmp 89) (.tmp 88) rfl (w.heap.size + 1 + 1) 5 (.int .i64 m.commit) rfl rfl X sizeInt ?_ (hid (by simp [x33])) (hid rfl); clear c5; intro w5 X hg; replace R := hid (R.out.grown hg (by simp; omega)); replace S := hid (S.out.grown hg (by simp)); replace HB := hid (HB.out.trans (below_grown hg (by omega) HB.out.size)); clear hg)
    | ((with_reducible show wpList _ _ _ ({ dst := some 159, op := _, type := _, pos := _, after := _, guard := _ } :: _) _ _); refine wpl_load_midw rfl 35 (.tmp 158) rfl w.heap.size 21 rfl (Array.toList m.entry.cells) _ (ms_entry R.out) Tryz.underlying35 rfl (by exact esize) ?_)
    | ((with_reducible show wpList _ _ _ ({ dst := none, op := .store _ (.tmp 160) _, type := _, pos := _, after := _, guard := _ } :: _) _ _); refine wpl_store_at rfl (.tmp 160) (.tmp 159) rfl esize (w.heap.size + 1 + 1) 21 _ (Array.toList m.entry.cells) rfl rfl X ?_ (hid (by simp [x33, En.cells])) (hid rfl) (hid (by simp [En.cells, Value.oneCell'])); intro w6 X hg; replace R := hid (R.out.grown hg (by simp; omega)); replace S := hid (S.out.grown hg (by simp)); replace HB := hid (HB.out.trans (below_grown hg (by omega) HB.out.size)); clear hg)
    | ((with_reducible show wpList _ _ _ ({ dst := some 179, op := _, type := _, pos := _, after := _, guard := _ } :: _) _ _); refine wpList_load_row rfl 45 (.tmp 4) rfl (w.heap.size + 1 + 1) rfl 45 ((keptM m).cells (keptP m p)) (0, 0) _ (Row.arr (by
        have h := X.out
        have e : (splice (List.set (List.set (x33 2 m.frm) 2 (.int .i64 m.view)) 5 (.int .i64 m.commit)) 21 (Array.toList m.entry.cells)) = ((keptM m).cells (keptP m p)).toList := by
          simp only [keptM, keptP, HK.out]
          rfl
        rw [e] at h
        exact h)) Tryz.underlying45 rfl HZS.out ?_)
    | ((with_reducible show wpList _ _ _ ({ dst := none, op := .store _ (.tmp 2) _, type := _, pos := _, after := _, guard := _ } :: _) _ _); refine wpl_store_st rfl (.tmp 2) (.tmp 179) rfl HZS.out (w.heap.size + 1) z33 ((keptM m).cells (keptP m p)) rfl rfl S.out ?_ (hid rfl) (hid rfl) (hid (by simp [Ms.cells, Value.oneCell'])); intro wz hrz hgz; replace HB := hid (HB.out.trans (below_grown hgz (by omega) HB.out.size))))
  refine bodyPost_ret (v := .agg ((keptM m).cells (keptP m p))) (results_cell_row rfl _ _ (w.heap.size + 1) 45 _ (0, 0) _ rfl (Row.arr hrz) Tryz.underlying45 rfl HZS.out) rfl ⟨rfl, HB.out⟩
set_option maxHeartbeats 4000000 in
theorem kept_3 (m : Ms) (p : Pl) (w : World) (hk : m.kind = 3) : Calls Tryz.prog 40 #[.agg (m.cells p)] w (VE w (.agg ((keptM m).cells (keptP m p)))) := by
  have HZS := hid mssize
  have hz := zero33
  have hzs := z33_size
  have hzn := z33_ne
  have R1 : Hid (Row ((w.alloc (.cells (m.cells p) 45)).alloc (.cells z33 45)) w.heap.size 45 (m.cells p).toList) := hid ((Row.new w 45 (m.cells p)).alloc _)
  have R2 : Hid (Row ((w.alloc (.cells (m.cells p) 45)).alloc (.cells z33 45)) (w.heap.size + 1) 45 z33.toList) := hid (by
    have := Row.new (w.alloc (.cells (m.cells p) 45)) 45 z33
    simpa using this)
  have R3 : Hid (Row (((w.alloc (.cells (m.cells p) 45)).alloc (.cells z33 45)).alloc (.cells z33 45)) (w.heap.size + 1 + 1) 45 z33.toList) := hid (by
    have := Row.new ((w.alloc (.cells (m.cells p) 45)).alloc (.cells z33 45)) 45 z33
    simpa using this)
  have HB : Hid (Below w.heap.size w (((w.alloc (.cells (m.cells p) 45)).alloc (.cells z33 45)).alloc (.cells z33 45))) := hid ((((Below.refl _ _).alloc (Nat.le_refl _) _).alloc (by simp) _).alloc (by simp; omega) _)
  have a0 : ((w.alloc (.cells (m.cells p) 45)).alloc (.cells z33 45)).cell? ⟨w.heap.size, 0, none⟩ = some (.int .i64 3) := by
    rw [R1.out.cell 0]
    show some (Value.int .i64 m.kind) = _
    rw [hk]
  have a1 : ((w.alloc (.cells (m.cells p) 45)).alloc (.cells z33 45)).cell? ⟨w.heap.size, 1, none⟩ = some (.int .i64 m.frm) := R1.out.cell 1
  have HK := hid hk
  have HX0 : Hid (((z33.setIfInBounds 0 (.int .i64 3)).setIfInBounds 1 (.int .i64 m.frm)).all (·.oneCell') = true) := hid (by
    rw [show (z33.setIfInBounds 0 (.int .i64 3)).setIfInBounds 1 (.int .i64 m.frm) = (x33 3 m.frm).toArray from rfl]
    simp [x33, Value.oneCell'])
  clear hk
  go_enter Tryz.func40, Tryz.ntmps40
  go_wp2_with (first
    | ((with_reducible show wpList _ _ _ ({ dst := none, op := .store _ (.tmp 4) _, type := _, pos := _, after := _, guard := _ } :: _) _ _); refine wpl_store_st rfl (.tmp 4) (.tmp 10) rfl HZS.out (w.heap.size + 1 + 1) z33 ((z33.setIfInBounds 0 (.int .i64 3)).setIfInBounds 1 (.int .i64 m.frm)) rfl rfl R3.out ?_ (hid rfl) (hid (by simp [z33])) HX0; intro w3 hr3 hg3; have R := hid ((R1.out.alloc (.cells z33 45)).grown hg3 (by simp; omega)); have S := hid ((R2.out.alloc (.cells z33 45)).grown hg3 (by simp)); have X : Hid (Row w3 (w.heap.size + 1 + 1) 45 (x33 3 m.frm)) := hid hr3; replace HB := hid (HB.out.trans (below_grown hg3 (by omega) HB.out.size)); have c2 : w3.cell? ⟨w.heap.size, 2, none⟩ = some (.int .i64 m.view) := R.out.cell 2; clear hr3 hg3 R1 R2 R3 a0 a1)
    | ((with_reducible show wpList _ _ _ ({ dst := none, op := .store _ (.tmp 47) _, type := _, pos := _, after := _, guard := _ } :: _) _ _); refine wpl_st1 rfl 3 (.tmp 47) (.tmp 46) rfl (w.heap.size + 1 + 1) 2 (.int .i64 m.view) rfl rfl X sizeInt ?_ (hid (by simp [x33])) (hid rfl); clear c2; intro w4 X hg; replace R := hid (R.out.grown hg (by simp; omega)); replace S := hid (S.out.grown hg (by simp)); replace HB := hid (HB.out.trans (below_grown hg (by omega) HB.out.size)); have c4 : w4.cell? ⟨w.heap.size, 4, none⟩ = some (.int .i64 m.opn) := R.out.cell 4; clear hg)
    | ((with_reducible show wpList _ _ _ ({ dst := none, op := .store _ (.tmp 72) _, type := _, pos := _, after := _, guard := _ } :: _) _ _); refine wpl_st1 rfl 3 (.tmp 72) (.tmp 71) rfl (w.heap.size + 1 + 1) 4 (.int .i64 m.opn) rfl rfl X sizeInt ?_ (hid (by simp [x33])) (hid rfl); clear c4; intro w5 X hg; replace R := hid (R.out.grown hg (by simp; omega)); replace S := hid (S.out.grown hg (by simp)); replace HB := hid (HB.out.trans (below_grown hg (by omega) HB.out.size)); clear hg)
    | ((with_reducible show wpList _ _ _ ({ dst := some 179, op := _, type := _, pos := _, after := _, guard := _ } :: _) _ _); refine wpList_load_row rfl 45 (.tmp 4) rfl (w.heap.size + 1 + 1) rfl 45 ((keptM m).cells (keptP m p)) (0, 0) _ (Row.arr (by
        have h := X.out
        have e : (List.set (List.set (x33 3 m.frm) 2 (.int .i64 m.view)) 4 (.int .i64 m.opn)) = ((keptM m).cells (keptP m p)).toList := by
          simp only [keptM, keptP, HK.out]
          rfl
        rw [e] at h
        exact h)) Tryz.underlying45 rfl HZS.out ?_)
    | ((with_reducible show wpList _ _ _ ({ dst := none, op := .store _ (.tmp 2) _, type := _, pos := _, after := _, guard := _ } :: _) _ _); refine wpl_store_st rfl (.tmp 2) (.tmp 179) rfl HZS.out (w.heap.size + 1) z33 ((keptM m).cells (keptP m p)) rfl rfl S.out ?_ (hid rfl) (hid rfl) (hid (by simp [Ms.cells, Value.oneCell'])); intro wz hrz hgz; replace HB := hid (HB.out.trans (below_grown hgz (by omega) HB.out.size))))
  refine bodyPost_ret (v := .agg ((keptM m).cells (keptP m p))) (results_cell_row rfl _ _ (w.heap.size + 1) 45 _ (0, 0) _ rfl (Row.arr hrz) Tryz.underlying45 rfl HZS.out) rfl ⟨rfl, HB.out⟩
set_option maxHeartbeats 4000000 in
theorem kept_4 (m : Ms) (p : Pl) (w : World) (hk : m.kind = 4) : Calls Tryz.prog 40 #[.agg (m.cells p)] w (VE w (.agg ((keptM m).cells (keptP m p)))) := by
  have HZS := hid mssize
  have hz := zero33
  have hzs := z33_size
  have hzn := z33_ne
  have R1 : Hid (Row ((w.alloc (.cells (m.cells p) 45)).alloc (.cells z33 45)) w.heap.size 45 (m.cells p).toList) := hid ((Row.new w 45 (m.cells p)).alloc _)
  have R2 : Hid (Row ((w.alloc (.cells (m.cells p) 45)).alloc (.cells z33 45)) (w.heap.size + 1) 45 z33.toList) := hid (by
    have := Row.new (w.alloc (.cells (m.cells p) 45)) 45 z33
    simpa using this)
  have R3 : Hid (Row (((w.alloc (.cells (m.cells p) 45)).alloc (.cells z33 45)).alloc (.cells z33 45)) (w.heap.size + 1 + 1) 45 z33.toList) := hid (by
    have := Row.new ((w.alloc (.cells (m.cells p) 45)).alloc (.cells z33 45)) 45 z33
    simpa using this)
  have HB : Hid (Below w.heap.size w (((w.alloc (.cells (m.cells p) 45)).alloc (.cells z33 45)).alloc (.cells z33 45))) := hid ((((Below.refl _ _).alloc (Nat.le_refl _) _).alloc (by simp) _).alloc (by simp; omega) _)
  have a0 : ((w.alloc (.cells (m.cells p) 45)).alloc (.cells z33 45)).cell? ⟨w.heap.size, 0, none⟩ = some (.int .i64 4) := by
    rw [R1.out.cell 0]
    show some (Value.int .i64 m.kind) = _
    rw [hk]
  have a1 : ((w.alloc (.cells (m.cells p) 45)).alloc (.cells z33 45)).cell? ⟨w.heap.size, 1, none⟩ = some (.int .i64 m.frm) := R1.out.cell 1
  have HK := hid hk
  have HX0 : Hid (((z33.setIfInBounds 0 (.int .i64 4)).setIfInBounds 1 (.int .i64 m.frm)).all (·.oneCell') = true) := hid (by
    rw [show (z33.setIfInBounds 0 (.int .i64 4)).setIfInBounds 1 (.int .i64 m.frm) = (x33 4 m.frm).toArray from rfl]
    simp [x33, Value.oneCell'])
  clear hk
  go_enter Tryz.func40, Tryz.ntmps40
  go_wp2_with (first
    | ((with_reducible show wpList _ _ _ ({ dst := none, op := .store _ (.tmp 4) _, type := _, pos := _, after := _, guard := _ } :: _) _ _); refine wpl_store_st rfl (.tmp 4) (.tmp 10) rfl HZS.out (w.heap.size + 1 + 1) z33 ((z33.setIfInBounds 0 (.int .i64 4)).setIfInBounds 1 (.int .i64 m.frm)) rfl rfl R3.out ?_ (hid rfl) (hid (by simp [z33])) HX0; intro w3 hr3 hg3; have R := hid ((R1.out.alloc (.cells z33 45)).grown hg3 (by simp; omega)); have S := hid ((R2.out.alloc (.cells z33 45)).grown hg3 (by simp)); have X : Hid (Row w3 (w.heap.size + 1 + 1) 45 (x33 4 m.frm)) := hid hr3; replace HB := hid (HB.out.trans (below_grown hg3 (by omega) HB.out.size)); have c2 : w3.cell? ⟨w.heap.size, 2, none⟩ = some (.int .i64 m.view) := R.out.cell 2; clear hr3 hg3 R1 R2 R3 a0 a1)
    | ((with_reducible show wpList _ _ _ ({ dst := none, op := .store _ (.tmp 47) _, type := _, pos := _, after := _, guard := _ } :: _) _ _); refine wpl_st1 rfl 3 (.tmp 47) (.tmp 46) rfl (w.heap.size + 1 + 1) 2 (.int .i64 m.view) rfl rfl X sizeInt ?_ (hid (by simp [x33])) (hid rfl); clear c2; intro w4 X hg; replace R := hid (R.out.grown hg (by simp; omega)); replace S := hid (S.out.grown hg (by simp)); replace HB := hid (HB.out.trans (below_grown hg (by omega) HB.out.size)); have c4 : w4.cell? ⟨w.heap.size, 4, none⟩ = some (.int .i64 m.opn) := R.out.cell 4; clear hg)
    | ((with_reducible show wpList _ _ _ ({ dst := none, op := .store _ (.tmp 72) _, type := _, pos := _, after := _, guard := _ } :: _) _ _); refine wpl_st1 rfl 3 (.tmp 72) (.tmp 71) rfl (w.heap.size + 1 + 1) 4 (.int .i64 m.opn) rfl rfl X sizeInt ?_ (hid (by simp [x33])) (hid rfl); clear c4; intro w5 X hg; replace R := hid (R.out.grown hg (by simp; omega)); replace S := hid (S.out.grown hg (by simp)); replace HB := hid (HB.out.trans (below_grown hg (by omega) HB.out.size)); have c6 : w5.cell? ⟨w.heap.size, 6, none⟩ = some (.int .i64 m.client) := R.out.cell 6; clear hg)
    | ((with_reducible show wpList _ _ _ ({ dst := none, op := .store _ (.tmp 102) _, type := _, pos := _, after := _, guard := _ } :: _) _ _); refine wpl_st1 rfl 3 (.tmp 102) (.tmp 101) rfl (w.heap.size + 1 + 1) 6 (.int .i64 m.client) rfl rfl X sizeInt ?_ (hid (by simp [x33])) (hid rfl); clear c6; intro w6 X hg; replace R := hid (R.out.grown hg (by simp; omega)); replace S := hid (S.out.grown hg (by simp)); replace HB := hid (HB.out.trans (below_grown hg (by omega) HB.out.size)); have c7 : w6.cell? ⟨w.heap.size, 7, none⟩ = some (.int .i64 m.session) := R.out.cell 7; clear hg)
    | ((with_reducible show wpList _ _ _ ({ dst := none, op := .store _ (.tmp 105) _, type := _, pos := _, after := _, guard := _ } :: _) _ _); refine wpl_st1 rfl 3 (.tmp 105) (.tmp 104) rfl (w.heap.size + 1 + 1) 7 (.int .i64 m.session) rfl rfl X sizeInt ?_ (hid (by simp [x33])) (hid rfl); clear c7; intro w7 X hg; replace R := hid (R.out.grown hg (by simp; omega)); replace S := hid (S.out.grown hg (by simp)); replace HB := hid (HB.out.trans (below_grown hg (by omega) HB.out.size)); have c8 : w7.cell? ⟨w.heap.size, 8, none⟩ = some (.int .i64 m.request) := R.out.cell 8; clear hg)
    | ((with_reducible show wpList _ _ _ ({ dst := none, op := .store _ (.tmp 108) _, type := _, pos := _, after := _, guard := _ } :: _) _ _); refine wpl_st1 rfl 3 (.tmp 108) (.tmp 107) rfl (w.heap.size + 1 + 1) 8 (.int .i64 m.request) rfl rfl X sizeInt ?_ (hid (by simp [x33])) (hid rfl); clear c8; intro w8 X hg; replace R := hid (R.out.grown hg (by simp; omega)); replace S := hid (S.out.grown hg (by simp)); replace HB := hid (HB.out.trans (below_grown hg (by omega) HB.out.size)); have c32 : w8.cell? ⟨w.heap.size, 32, none⟩ = some (.string m.body) := R.out.cell 32; clear hg)
    | ((with_reducible show wpList _ _ _ ({ dst := none, op := .store _ (.tmp 178) _, type := _, pos := _, after := _, guard := _ } :: _) _ _); refine wpl_st1 rfl 9 (.tmp 178) (.tmp 177) rfl (w.heap.size + 1 + 1) 32 (.string m.body) rfl rfl X sizeStr ?_ (hid (by simp [x33])) (hid rfl); clear c32; intro w9 X hg; replace R := hid (R.out.grown hg (by simp; omega)); replace S := hid (S.out.grown hg (by simp)); replace HB := hid (HB.out.trans (below_grown hg (by omega) HB.out.size)); clear hg)
    | ((with_reducible show wpList _ _ _ ({ dst := some 179, op := _, type := _, pos := _, after := _, guard := _ } :: _) _ _); refine wpList_load_row rfl 45 (.tmp 4) rfl (w.heap.size + 1 + 1) rfl 45 ((keptM m).cells (keptP m p)) (0, 0) _ (Row.arr (by
        have h := X.out
        have e : (List.set (List.set (List.set (List.set (List.set (List.set (x33 4 m.frm) 2 (.int .i64 m.view)) 4 (.int .i64 m.opn)) 6 (.int .i64 m.client)) 7 (.int .i64 m.session)) 8 (.int .i64 m.request)) 32 (.string m.body)) = ((keptM m).cells (keptP m p)).toList := by
          simp only [keptM, keptP, HK.out]
          rfl
        rw [e] at h
        exact h)) Tryz.underlying45 rfl HZS.out ?_)
    | ((with_reducible show wpList _ _ _ ({ dst := none, op := .store _ (.tmp 2) _, type := _, pos := _, after := _, guard := _ } :: _) _ _); refine wpl_store_st rfl (.tmp 2) (.tmp 179) rfl HZS.out (w.heap.size + 1) z33 ((keptM m).cells (keptP m p)) rfl rfl S.out ?_ (hid rfl) (hid rfl) (hid (by simp [Ms.cells, Value.oneCell'])); intro wz hrz hgz; replace HB := hid (HB.out.trans (below_grown hgz (by omega) HB.out.size))))
  refine bodyPost_ret (v := .agg ((keptM m).cells (keptP m p))) (results_cell_row rfl _ _ (w.heap.size + 1) 45 _ (0, 0) _ rfl (Row.arr hrz) Tryz.underlying45 rfl HZS.out) rfl ⟨rfl, HB.out⟩
set_option maxHeartbeats 4000000 in
theorem kept_5 (m : Ms) (p : Pl) (w : World) (hk : m.kind = 5) : Calls Tryz.prog 40 #[.agg (m.cells p)] w (VE w (.agg ((keptM m).cells (keptP m p)))) := by
  have HZS := hid mssize
  have hz := zero33
  have hzs := z33_size
  have hzn := z33_ne
  have R1 : Hid (Row ((w.alloc (.cells (m.cells p) 45)).alloc (.cells z33 45)) w.heap.size 45 (m.cells p).toList) := hid ((Row.new w 45 (m.cells p)).alloc _)
  have R2 : Hid (Row ((w.alloc (.cells (m.cells p) 45)).alloc (.cells z33 45)) (w.heap.size + 1) 45 z33.toList) := hid (by
    have := Row.new (w.alloc (.cells (m.cells p) 45)) 45 z33
    simpa using this)
  have R3 : Hid (Row (((w.alloc (.cells (m.cells p) 45)).alloc (.cells z33 45)).alloc (.cells z33 45)) (w.heap.size + 1 + 1) 45 z33.toList) := hid (by
    have := Row.new ((w.alloc (.cells (m.cells p) 45)).alloc (.cells z33 45)) 45 z33
    simpa using this)
  have HB : Hid (Below w.heap.size w (((w.alloc (.cells (m.cells p) 45)).alloc (.cells z33 45)).alloc (.cells z33 45))) := hid ((((Below.refl _ _).alloc (Nat.le_refl _) _).alloc (by simp) _).alloc (by simp; omega) _)
  have a0 : ((w.alloc (.cells (m.cells p) 45)).alloc (.cells z33 45)).cell? ⟨w.heap.size, 0, none⟩ = some (.int .i64 5) := by
    rw [R1.out.cell 0]
    show some (Value.int .i64 m.kind) = _
    rw [hk]
  have a1 : ((w.alloc (.cells (m.cells p) 45)).alloc (.cells z33 45)).cell? ⟨w.heap.size, 1, none⟩ = some (.int .i64 m.frm) := R1.out.cell 1
  have HK := hid hk
  have HX0 : Hid (((z33.setIfInBounds 0 (.int .i64 5)).setIfInBounds 1 (.int .i64 m.frm)).all (·.oneCell') = true) := hid (by
    rw [show (z33.setIfInBounds 0 (.int .i64 5)).setIfInBounds 1 (.int .i64 m.frm) = (x33 5 m.frm).toArray from rfl]
    simp [x33, Value.oneCell'])
  clear hk
  go_enter Tryz.func40, Tryz.ntmps40
  go_wp2_with (first
    | ((with_reducible show wpList _ _ _ ({ dst := none, op := .store _ (.tmp 4) _, type := _, pos := _, after := _, guard := _ } :: _) _ _); refine wpl_store_st rfl (.tmp 4) (.tmp 10) rfl HZS.out (w.heap.size + 1 + 1) z33 ((z33.setIfInBounds 0 (.int .i64 5)).setIfInBounds 1 (.int .i64 m.frm)) rfl rfl R3.out ?_ (hid rfl) (hid (by simp [z33])) HX0; intro w3 hr3 hg3; have R := hid ((R1.out.alloc (.cells z33 45)).grown hg3 (by simp; omega)); have S := hid ((R2.out.alloc (.cells z33 45)).grown hg3 (by simp)); have X : Hid (Row w3 (w.heap.size + 1 + 1) 45 (x33 5 m.frm)) := hid hr3; replace HB := hid (HB.out.trans (below_grown hg3 (by omega) HB.out.size)); have c2 : w3.cell? ⟨w.heap.size, 2, none⟩ = some (.int .i64 m.view) := R.out.cell 2; clear hr3 hg3 R1 R2 R3 a0 a1)
    | ((with_reducible show wpList _ _ _ ({ dst := none, op := .store _ (.tmp 47) _, type := _, pos := _, after := _, guard := _ } :: _) _ _); refine wpl_st1 rfl 3 (.tmp 47) (.tmp 46) rfl (w.heap.size + 1 + 1) 2 (.int .i64 m.view) rfl rfl X sizeInt ?_ (hid (by simp [x33])) (hid rfl); clear c2; intro w4 X hg; replace R := hid (R.out.grown hg (by simp; omega)); replace S := hid (S.out.grown hg (by simp)); replace HB := hid (HB.out.trans (below_grown hg (by omega) HB.out.size)); have c5 : w4.cell? ⟨w.heap.size, 5, none⟩ = some (.int .i64 m.commit) := R.out.cell 5; clear hg)
    | ((with_reducible show wpList _ _ _ ({ dst := none, op := .store _ (.tmp 89) _, type := _, pos := _, after := _, guard := _ } :: _) _ _); refine wpl_st1 rfl 3 (.tmp 89) (.tmp 88) rfl (w.heap.size + 1 + 1) 5 (.int .i64 m.commit) rfl rfl X sizeInt ?_ (hid (by simp [x33])) (hid rfl); clear c5; intro w5 X hg; replace R := hid (R.out.grown hg (by simp; omega)); replace S := hid (S.out.grown hg (by simp)); replace HB := hid (HB.out.trans (below_grown hg (by omega) HB.out.size)); clear hg)
    | ((with_reducible show wpList _ _ _ ({ dst := some 179, op := _, type := _, pos := _, after := _, guard := _ } :: _) _ _); refine wpList_load_row rfl 45 (.tmp 4) rfl (w.heap.size + 1 + 1) rfl 45 ((keptM m).cells (keptP m p)) (0, 0) _ (Row.arr (by
        have h := X.out
        have e : (List.set (List.set (x33 5 m.frm) 2 (.int .i64 m.view)) 5 (.int .i64 m.commit)) = ((keptM m).cells (keptP m p)).toList := by
          simp only [keptM, keptP, HK.out]
          rfl
        rw [e] at h
        exact h)) Tryz.underlying45 rfl HZS.out ?_)
    | ((with_reducible show wpList _ _ _ ({ dst := none, op := .store _ (.tmp 2) _, type := _, pos := _, after := _, guard := _ } :: _) _ _); refine wpl_store_st rfl (.tmp 2) (.tmp 179) rfl HZS.out (w.heap.size + 1) z33 ((keptM m).cells (keptP m p)) rfl rfl S.out ?_ (hid rfl) (hid rfl) (hid (by simp [Ms.cells, Value.oneCell'])); intro wz hrz hgz; replace HB := hid (HB.out.trans (below_grown hgz (by omega) HB.out.size))))
  refine bodyPost_ret (v := .agg ((keptM m).cells (keptP m p))) (results_cell_row rfl _ _ (w.heap.size + 1) 45 _ (0, 0) _ rfl (Row.arr hrz) Tryz.underlying45 rfl HZS.out) rfl ⟨rfl, HB.out⟩
set_option maxHeartbeats 4000000 in
theorem kept_6 (m : Ms) (p : Pl) (w : World) (hk : m.kind = 6) : Calls Tryz.prog 40 #[.agg (m.cells p)] w (VE w (.agg ((keptM m).cells (keptP m p)))) := by
  have HZS := hid mssize
  have hz := zero33
  have hzs := z33_size
  have hzn := z33_ne
  have R1 : Hid (Row ((w.alloc (.cells (m.cells p) 45)).alloc (.cells z33 45)) w.heap.size 45 (m.cells p).toList) := hid ((Row.new w 45 (m.cells p)).alloc _)
  have R2 : Hid (Row ((w.alloc (.cells (m.cells p) 45)).alloc (.cells z33 45)) (w.heap.size + 1) 45 z33.toList) := hid (by
    have := Row.new (w.alloc (.cells (m.cells p) 45)) 45 z33
    simpa using this)
  have R3 : Hid (Row (((w.alloc (.cells (m.cells p) 45)).alloc (.cells z33 45)).alloc (.cells z33 45)) (w.heap.size + 1 + 1) 45 z33.toList) := hid (by
    have := Row.new ((w.alloc (.cells (m.cells p) 45)).alloc (.cells z33 45)) 45 z33
    simpa using this)
  have HB : Hid (Below w.heap.size w (((w.alloc (.cells (m.cells p) 45)).alloc (.cells z33 45)).alloc (.cells z33 45))) := hid ((((Below.refl _ _).alloc (Nat.le_refl _) _).alloc (by simp) _).alloc (by simp; omega) _)
  have a0 : ((w.alloc (.cells (m.cells p) 45)).alloc (.cells z33 45)).cell? ⟨w.heap.size, 0, none⟩ = some (.int .i64 6) := by
    rw [R1.out.cell 0]
    show some (Value.int .i64 m.kind) = _
    rw [hk]
  have a1 : ((w.alloc (.cells (m.cells p) 45)).alloc (.cells z33 45)).cell? ⟨w.heap.size, 1, none⟩ = some (.int .i64 m.frm) := R1.out.cell 1
  have HK := hid hk
  have HX0 : Hid (((z33.setIfInBounds 0 (.int .i64 6)).setIfInBounds 1 (.int .i64 m.frm)).all (·.oneCell') = true) := hid (by
    rw [show (z33.setIfInBounds 0 (.int .i64 6)).setIfInBounds 1 (.int .i64 m.frm) = (x33 6 m.frm).toArray from rfl]
    simp [x33, Value.oneCell'])
  clear hk
  go_enter Tryz.func40, Tryz.ntmps40
  go_wp2_with (first
    | ((with_reducible show wpList _ _ _ ({ dst := none, op := .store _ (.tmp 4) _, type := _, pos := _, after := _, guard := _ } :: _) _ _); refine wpl_store_st rfl (.tmp 4) (.tmp 10) rfl HZS.out (w.heap.size + 1 + 1) z33 ((z33.setIfInBounds 0 (.int .i64 6)).setIfInBounds 1 (.int .i64 m.frm)) rfl rfl R3.out ?_ (hid rfl) (hid (by simp [z33])) HX0; intro w3 hr3 hg3; have R := hid ((R1.out.alloc (.cells z33 45)).grown hg3 (by simp; omega)); have S := hid ((R2.out.alloc (.cells z33 45)).grown hg3 (by simp)); have X : Hid (Row w3 (w.heap.size + 1 + 1) 45 (x33 6 m.frm)) := hid hr3; replace HB := hid (HB.out.trans (below_grown hg3 (by omega) HB.out.size)); have c2 : w3.cell? ⟨w.heap.size, 2, none⟩ = some (.int .i64 m.view) := R.out.cell 2; clear hr3 hg3 R1 R2 R3 a0 a1)
    | ((with_reducible show wpList _ _ _ ({ dst := none, op := .store _ (.tmp 47) _, type := _, pos := _, after := _, guard := _ } :: _) _ _); refine wpl_st1 rfl 3 (.tmp 47) (.tmp 46) rfl (w.heap.size + 1 + 1) 2 (.int .i64 m.view) rfl rfl X sizeInt ?_ (hid (by simp [x33])) (hid rfl); clear c2; intro w4 X hg; replace R := hid (R.out.grown hg (by simp; omega)); replace S := hid (S.out.grown hg (by simp)); replace HB := hid (HB.out.trans (below_grown hg (by omega) HB.out.size)); clear hg)
    | ((with_reducible show wpList _ _ _ ({ dst := some 179, op := _, type := _, pos := _, after := _, guard := _ } :: _) _ _); refine wpList_load_row rfl 45 (.tmp 4) rfl (w.heap.size + 1 + 1) rfl 45 ((keptM m).cells (keptP m p)) (0, 0) _ (Row.arr (by
        have h := X.out
        have e : (List.set (x33 6 m.frm) 2 (.int .i64 m.view)) = ((keptM m).cells (keptP m p)).toList := by
          simp only [keptM, keptP, HK.out]
          rfl
        rw [e] at h
        exact h)) Tryz.underlying45 rfl HZS.out ?_)
    | ((with_reducible show wpList _ _ _ ({ dst := none, op := .store _ (.tmp 2) _, type := _, pos := _, after := _, guard := _ } :: _) _ _); refine wpl_store_st rfl (.tmp 2) (.tmp 179) rfl HZS.out (w.heap.size + 1) z33 ((keptM m).cells (keptP m p)) rfl rfl S.out ?_ (hid rfl) (hid rfl) (hid (by simp [Ms.cells, Value.oneCell'])); intro wz hrz hgz; replace HB := hid (HB.out.trans (below_grown hgz (by omega) HB.out.size))))
  refine bodyPost_ret (v := .agg ((keptM m).cells (keptP m p))) (results_cell_row rfl _ _ (w.heap.size + 1) 45 _ (0, 0) _ rfl (Row.arr hrz) Tryz.underlying45 rfl HZS.out) rfl ⟨rfl, HB.out⟩
set_option maxHeartbeats 4000000 in
theorem kept_7 (m : Ms) (p : Pl) (w : World) (hk : m.kind = 7) : Calls Tryz.prog 40 #[.agg (m.cells p)] w (VE w (.agg ((keptM m).cells (keptP m p)))) := by
  have HZS := hid mssize
  have hz := zero33
  have hzs := z33_size
  have hzn := z33_ne
  have R1 : Hid (Row ((w.alloc (.cells (m.cells p) 45)).alloc (.cells z33 45)) w.heap.size 45 (m.cells p).toList) := hid ((Row.new w 45 (m.cells p)).alloc _)
  have R2 : Hid (Row ((w.alloc (.cells (m.cells p) 45)).alloc (.cells z33 45)) (w.heap.size + 1) 45 z33.toList) := hid (by
    have := Row.new (w.alloc (.cells (m.cells p) 45)) 45 z33
    simpa using this)
  have R3 : Hid (Row (((w.alloc (.cells (m.cells p) 45)).alloc (.cells z33 45)).alloc (.cells z33 45)) (w.heap.size + 1 + 1) 45 z33.toList) := hid (by
    have := Row.new ((w.alloc (.cells (m.cells p) 45)).alloc (.cells z33 45)) 45 z33
    simpa using this)
  have HB : Hid (Below w.heap.size w (((w.alloc (.cells (m.cells p) 45)).alloc (.cells z33 45)).alloc (.cells z33 45))) := hid ((((Below.refl _ _).alloc (Nat.le_refl _) _).alloc (by simp) _).alloc (by simp; omega) _)
  have a0 : ((w.alloc (.cells (m.cells p) 45)).alloc (.cells z33 45)).cell? ⟨w.heap.size, 0, none⟩ = some (.int .i64 7) := by
    rw [R1.out.cell 0]
    show some (Value.int .i64 m.kind) = _
    rw [hk]
  have a1 : ((w.alloc (.cells (m.cells p) 45)).alloc (.cells z33 45)).cell? ⟨w.heap.size, 1, none⟩ = some (.int .i64 m.frm) := R1.out.cell 1
  have HK := hid hk
  have HX0 : Hid (((z33.setIfInBounds 0 (.int .i64 7)).setIfInBounds 1 (.int .i64 m.frm)).all (·.oneCell') = true) := hid (by
    rw [show (z33.setIfInBounds 0 (.int .i64 7)).setIfInBounds 1 (.int .i64 m.frm) = (x33 7 m.frm).toArray from rfl]
    simp [x33, Value.oneCell'])
  clear hk
  go_enter Tryz.func40, Tryz.ntmps40
  go_wp2_with (first
    | ((with_reducible show wpList _ _ _ ({ dst := none, op := .store _ (.tmp 4) _, type := _, pos := _, after := _, guard := _ } :: _) _ _); refine wpl_store_st rfl (.tmp 4) (.tmp 10) rfl HZS.out (w.heap.size + 1 + 1) z33 ((z33.setIfInBounds 0 (.int .i64 7)).setIfInBounds 1 (.int .i64 m.frm)) rfl rfl R3.out ?_ (hid rfl) (hid (by simp [z33])) HX0; intro w3 hr3 hg3; have R := hid ((R1.out.alloc (.cells z33 45)).grown hg3 (by simp; omega)); have S := hid ((R2.out.alloc (.cells z33 45)).grown hg3 (by simp)); have X : Hid (Row w3 (w.heap.size + 1 + 1) 45 (x33 7 m.frm)) := hid hr3; replace HB := hid (HB.out.trans (below_grown hg3 (by omega) HB.out.size)); have c2 : w3.cell? ⟨w.heap.size, 2, none⟩ = some (.int .i64 m.view) := R.out.cell 2; clear hr3 hg3 R1 R2 R3 a0 a1)
    | ((with_reducible show wpList _ _ _ ({ dst := none, op := .store _ (.tmp 47) _, type := _, pos := _, after := _, guard := _ } :: _) _ _); refine wpl_st1 rfl 3 (.tmp 47) (.tmp 46) rfl (w.heap.size + 1 + 1) 2 (.int .i64 m.view) rfl rfl X sizeInt ?_ (hid (by simp [x33])) (hid rfl); clear c2; intro w4 X hg; replace R := hid (R.out.grown hg (by simp; omega)); replace S := hid (S.out.grown hg (by simp)); replace HB := hid (HB.out.trans (below_grown hg (by omega) HB.out.size)); have c3 : w4.cell? ⟨w.heap.size, 3, none⟩ = some (.int .i64 m.lv) := R.out.cell 3; clear hg)
    | ((with_reducible show wpList _ _ _ ({ dst := none, op := .store _ (.tmp 52) _, type := _, pos := _, after := _, guard := _ } :: _) _ _); refine wpl_st1 rfl 3 (.tmp 52) (.tmp 51) rfl (w.heap.size + 1 + 1) 3 (.int .i64 m.lv) rfl rfl X sizeInt ?_ (hid (by simp [x33])) (hid rfl); clear c3; intro w5 X hg; replace R := hid (R.out.grown hg (by simp; omega)); replace S := hid (S.out.grown hg (by simp)); replace HB := hid (HB.out.trans (below_grown hg (by omega) HB.out.size)); have c31 : w5.cell? ⟨w.heap.size, 31, none⟩ = some (.slice p.B m.xs.length p.cB) := R.out.cell 31; clear hg)
    | ((with_reducible show wpList _ _ _ ({ dst := none, op := .store _ (.tmp 55) _, type := _, pos := _, after := _, guard := _ } :: _) _ _); refine wpl_st1 rfl 43 (.tmp 55) (.tmp 54) rfl (w.heap.size + 1 + 1) 31 (.slice p.B m.xs.length p.cB) rfl rfl X sizeSlI ?_ (hid (by simp [x33])) (hid rfl); clear c31; intro w6 X hg; replace R := hid (R.out.grown hg (by simp; omega)); replace S := hid (S.out.grown hg (by simp)); replace HB := hid (HB.out.trans (below_grown hg (by omega) HB.out.size)); have c5 : w6.cell? ⟨w.heap.size, 5, none⟩ = some (.int .i64 m.commit) := R.out.cell 5; clear hg)
    | ((with_reducible show wpList _ _ _ ({ dst := none, op := .store _ (.tmp 89) _, type := _, pos := _, after := _, guard := _ } :: _) _ _); refine wpl_st1 rfl 3 (.tmp 89) (.tmp 88) rfl (w.heap.size + 1 + 1) 5 (.int .i64 m.commit) rfl rfl X sizeInt ?_ (hid (by simp [x33])) (hid rfl); clear c5; intro w7 X hg; replace R := hid (R.out.grown hg (by simp; omega)); replace S := hid (S.out.grown hg (by simp)); replace HB := hid (HB.out.trans (below_grown hg (by omega) HB.out.size)); clear hg)
    | ((with_reducible show wpList _ _ _ ({ dst := some 150, op := _, type := _, pos := _, after := _, guard := _ } :: _) _ _); refine wpl_load_midw rfl 27 (.tmp 149) rfl w.heap.size 12 rfl (Array.toList m.check.cells) _ (ms_check R.out) Tryz.underlying27 rfl (by exact msize) ?_)
    | ((with_reducible show wpList _ _ _ ({ dst := none, op := .store _ (.tmp 151) _, type := _, pos := _, after := _, guard := _ } :: _) _ _); refine wpl_store_at rfl (.tmp 151) (.tmp 150) rfl msize (w.heap.size + 1 + 1) 12 _ (Array.toList m.check.cells) rfl rfl X ?_ (hid (by simp [x33, Mk.cells])) (hid rfl) (hid (by simp [Mk.cells, Value.oneCell'])); intro w8 X hg; replace R := hid (R.out.grown hg (by simp; omega)); replace S := hid (S.out.grown hg (by simp)); replace HB := hid (HB.out.trans (below_grown hg (by omega) HB.out.size)); clear hg)
    | ((with_reducible show wpList _ _ _ ({ dst := some 179, op := _, type := _, pos := _, after := _, guard := _ } :: _) _ _); refine wpList_load_row rfl 45 (.tmp 4) rfl (w.heap.size + 1 + 1) rfl 45 ((keptM m).cells (keptP m p)) (0, 0) _ (Row.arr (by
        have h := X.out
        have e : (splice (List.set (List.set (List.set (List.set (x33 7 m.frm) 2 (.int .i64 m.view)) 3 (.int .i64 m.lv)) 31 (.slice p.B m.xs.length p.cB)) 5 (.int .i64 m.commit)) 12 (Array.toList m.check.cells)) = ((keptM m).cells (keptP m p)).toList := by
          simp only [keptM, keptP, HK.out]
          rfl
        rw [e] at h
        exact h)) Tryz.underlying45 rfl HZS.out ?_)
    | ((with_reducible show wpList _ _ _ ({ dst := none, op := .store _ (.tmp 2) _, type := _, pos := _, after := _, guard := _ } :: _) _ _); refine wpl_store_st rfl (.tmp 2) (.tmp 179) rfl HZS.out (w.heap.size + 1) z33 ((keptM m).cells (keptP m p)) rfl rfl S.out ?_ (hid rfl) (hid rfl) (hid (by simp [Ms.cells, Value.oneCell'])); intro wz hrz hgz; replace HB := hid (HB.out.trans (below_grown hgz (by omega) HB.out.size))))
  refine bodyPost_ret (v := .agg ((keptM m).cells (keptP m p))) (results_cell_row rfl _ _ (w.heap.size + 1) 45 _ (0, 0) _ rfl (Row.arr hrz) Tryz.underlying45 rfl HZS.out) rfl ⟨rfl, HB.out⟩
set_option maxHeartbeats 4000000 in
theorem kept_8 (m : Ms) (p : Pl) (w : World) (hk : m.kind = 8) : Calls Tryz.prog 40 #[.agg (m.cells p)] w (VE w (.agg ((keptM m).cells (keptP m p)))) := by
  have HZS := hid mssize
  have hz := zero33
  have hzs := z33_size
  have hzn := z33_ne
  have R1 : Hid (Row ((w.alloc (.cells (m.cells p) 45)).alloc (.cells z33 45)) w.heap.size 45 (m.cells p).toList) := hid ((Row.new w 45 (m.cells p)).alloc _)
  have R2 : Hid (Row ((w.alloc (.cells (m.cells p) 45)).alloc (.cells z33 45)) (w.heap.size + 1) 45 z33.toList) := hid (by
    have := Row.new (w.alloc (.cells (m.cells p) 45)) 45 z33
    simpa using this)
  have R3 : Hid (Row (((w.alloc (.cells (m.cells p) 45)).alloc (.cells z33 45)).alloc (.cells z33 45)) (w.heap.size + 1 + 1) 45 z33.toList) := hid (by
    have := Row.new ((w.alloc (.cells (m.cells p) 45)).alloc (.cells z33 45)) 45 z33
    simpa using this)
  have HB : Hid (Below w.heap.size w (((w.alloc (.cells (m.cells p) 45)).alloc (.cells z33 45)).alloc (.cells z33 45))) := hid ((((Below.refl _ _).alloc (Nat.le_refl _) _).alloc (by simp) _).alloc (by simp; omega) _)
  have a0 : ((w.alloc (.cells (m.cells p) 45)).alloc (.cells z33 45)).cell? ⟨w.heap.size, 0, none⟩ = some (.int .i64 8) := by
    rw [R1.out.cell 0]
    show some (Value.int .i64 m.kind) = _
    rw [hk]
  have a1 : ((w.alloc (.cells (m.cells p) 45)).alloc (.cells z33 45)).cell? ⟨w.heap.size, 1, none⟩ = some (.int .i64 m.frm) := R1.out.cell 1
  have HK := hid hk
  have HX0 : Hid (((z33.setIfInBounds 0 (.int .i64 8)).setIfInBounds 1 (.int .i64 m.frm)).all (·.oneCell') = true) := hid (by
    rw [show (z33.setIfInBounds 0 (.int .i64 8)).setIfInBounds 1 (.int .i64 m.frm) = (x33 8 m.frm).toArray from rfl]
    simp [x33, Value.oneCell'])
  clear hk
  go_enter Tryz.func40, Tryz.ntmps40
  go_wp2_with (first
    | ((with_reducible show wpList _ _ _ ({ dst := none, op := .store _ (.tmp 4) _, type := _, pos := _, after := _, guard := _ } :: _) _ _); refine wpl_store_st rfl (.tmp 4) (.tmp 10) rfl HZS.out (w.heap.size + 1 + 1) z33 ((z33.setIfInBounds 0 (.int .i64 8)).setIfInBounds 1 (.int .i64 m.frm)) rfl rfl R3.out ?_ (hid rfl) (hid (by simp [z33])) HX0; intro w3 hr3 hg3; have R := hid ((R1.out.alloc (.cells z33 45)).grown hg3 (by simp; omega)); have S := hid ((R2.out.alloc (.cells z33 45)).grown hg3 (by simp)); have X : Hid (Row w3 (w.heap.size + 1 + 1) 45 (x33 8 m.frm)) := hid hr3; replace HB := hid (HB.out.trans (below_grown hg3 (by omega) HB.out.size)); have c2 : w3.cell? ⟨w.heap.size, 2, none⟩ = some (.int .i64 m.view) := R.out.cell 2; clear hr3 hg3 R1 R2 R3 a0 a1)
    | ((with_reducible show wpList _ _ _ ({ dst := none, op := .store _ (.tmp 47) _, type := _, pos := _, after := _, guard := _ } :: _) _ _); refine wpl_st1 rfl 3 (.tmp 47) (.tmp 46) rfl (w.heap.size + 1 + 1) 2 (.int .i64 m.view) rfl rfl X sizeInt ?_ (hid (by simp [x33])) (hid rfl); clear c2; intro w4 X hg; replace R := hid (R.out.grown hg (by simp; omega)); replace S := hid (S.out.grown hg (by simp)); replace HB := hid (HB.out.trans (below_grown hg (by omega) HB.out.size)); have c5 : w4.cell? ⟨w.heap.size, 5, none⟩ = some (.int .i64 m.commit) := R.out.cell 5; clear hg)
    | ((with_reducible show wpList _ _ _ ({ dst := none, op := .store _ (.tmp 89) _, type := _, pos := _, after := _, guard := _ } :: _) _ _); refine wpl_st1 rfl 3 (.tmp 89) (.tmp 88) rfl (w.heap.size + 1 + 1) 5 (.int .i64 m.commit) rfl rfl X sizeInt ?_ (hid (by simp [x33])) (hid rfl); clear c5; intro w5 X hg; replace R := hid (R.out.grown hg (by simp; omega)); replace S := hid (S.out.grown hg (by simp)); replace HB := hid (HB.out.trans (below_grown hg (by omega) HB.out.size)); clear hg)
    | ((with_reducible show wpList _ _ _ ({ dst := some 150, op := _, type := _, pos := _, after := _, guard := _ } :: _) _ _); refine wpl_load_midw rfl 27 (.tmp 149) rfl w.heap.size 12 rfl (Array.toList m.check.cells) _ (ms_check R.out) Tryz.underlying27 rfl (by exact msize) ?_)
    | ((with_reducible show wpList _ _ _ ({ dst := none, op := .store _ (.tmp 151) _, type := _, pos := _, after := _, guard := _ } :: _) _ _); refine wpl_store_at rfl (.tmp 151) (.tmp 150) rfl msize (w.heap.size + 1 + 1) 12 _ (Array.toList m.check.cells) rfl rfl X ?_ (hid (by simp [x33, Mk.cells])) (hid rfl) (hid (by simp [Mk.cells, Value.oneCell'])); intro w6 X hg; replace R := hid (R.out.grown hg (by simp; omega)); replace S := hid (S.out.grown hg (by simp)); replace HB := hid (HB.out.trans (below_grown hg (by omega) HB.out.size)); have c30 : w6.cell? ⟨w.heap.size, 30, none⟩ = some (.slice p.A m.es.length p.cA) := R.out.cell 30; clear hg)
    | ((with_reducible show wpList _ _ _ ({ dst := none, op := .store _ (.tmp 165) _, type := _, pos := _, after := _, guard := _ } :: _) _ _); refine wpl_st1 rfl 28 (.tmp 165) (.tmp 164) rfl (w.heap.size + 1 + 1) 30 (.slice p.A m.es.length p.cA) rfl rfl X sizeSlE ?_ (hid (by simp [x33, splice, Mk.cells])) (hid rfl); clear c30; intro w7 X hg; replace R := hid (R.out.grown hg (by simp; omega)); replace S := hid (S.out.grown hg (by simp)); replace HB := hid (HB.out.trans (below_grown hg (by omega) HB.out.size)); clear hg)
    | ((with_reducible show wpList _ _ _ ({ dst := some 179, op := _, type := _, pos := _, after := _, guard := _ } :: _) _ _); refine wpList_load_row rfl 45 (.tmp 4) rfl (w.heap.size + 1 + 1) rfl 45 ((keptM m).cells (keptP m p)) (0, 0) _ (Row.arr (by
        have h := X.out
        have e : (List.set (splice (List.set (List.set (x33 8 m.frm) 2 (.int .i64 m.view)) 5 (.int .i64 m.commit)) 12 (Array.toList m.check.cells)) 30 (.slice p.A m.es.length p.cA)) = ((keptM m).cells (keptP m p)).toList := by
          simp only [keptM, keptP, HK.out]
          rfl
        rw [e] at h
        exact h)) Tryz.underlying45 rfl HZS.out ?_)
    | ((with_reducible show wpList _ _ _ ({ dst := none, op := .store _ (.tmp 2) _, type := _, pos := _, after := _, guard := _ } :: _) _ _); refine wpl_store_st rfl (.tmp 2) (.tmp 179) rfl HZS.out (w.heap.size + 1) z33 ((keptM m).cells (keptP m p)) rfl rfl S.out ?_ (hid rfl) (hid rfl) (hid (by simp [Ms.cells, Value.oneCell'])); intro wz hrz hgz; replace HB := hid (HB.out.trans (below_grown hgz (by omega) HB.out.size))))
  refine bodyPost_ret (v := .agg ((keptM m).cells (keptP m p))) (results_cell_row rfl _ _ (w.heap.size + 1) 45 _ (0, 0) _ rfl (Row.arr hrz) Tryz.underlying45 rfl HZS.out) rfl ⟨rfl, HB.out⟩
set_option maxHeartbeats 4000000 in
theorem kept_9 (m : Ms) (p : Pl) (w : World) (hk : m.kind = 9) : Calls Tryz.prog 40 #[.agg (m.cells p)] w (VE w (.agg ((keptM m).cells (keptP m p)))) := by
  have HZS := hid mssize
  have hz := zero33
  have hzs := z33_size
  have hzn := z33_ne
  have R1 : Hid (Row ((w.alloc (.cells (m.cells p) 45)).alloc (.cells z33 45)) w.heap.size 45 (m.cells p).toList) := hid ((Row.new w 45 (m.cells p)).alloc _)
  have R2 : Hid (Row ((w.alloc (.cells (m.cells p) 45)).alloc (.cells z33 45)) (w.heap.size + 1) 45 z33.toList) := hid (by
    have := Row.new (w.alloc (.cells (m.cells p) 45)) 45 z33
    simpa using this)
  have R3 : Hid (Row (((w.alloc (.cells (m.cells p) 45)).alloc (.cells z33 45)).alloc (.cells z33 45)) (w.heap.size + 1 + 1) 45 z33.toList) := hid (by
    have := Row.new ((w.alloc (.cells (m.cells p) 45)).alloc (.cells z33 45)) 45 z33
    simpa using this)
  have HB : Hid (Below w.heap.size w (((w.alloc (.cells (m.cells p) 45)).alloc (.cells z33 45)).alloc (.cells z33 45))) := hid ((((Below.refl _ _).alloc (Nat.le_refl _) _).alloc (by simp) _).alloc (by simp; omega) _)
  have a0 : ((w.alloc (.cells (m.cells p) 45)).alloc (.cells z33 45)).cell? ⟨w.heap.size, 0, none⟩ = some (.int .i64 9) := by
    rw [R1.out.cell 0]
    show some (Value.int .i64 m.kind) = _
    rw [hk]
  have a1 : ((w.alloc (.cells (m.cells p) 45)).alloc (.cells z33 45)).cell? ⟨w.heap.size, 1, none⟩ = some (.int .i64 m.frm) := R1.out.cell 1
  have HK := hid hk
  have HX0 : Hid (((z33.setIfInBounds 0 (.int .i64 9)).setIfInBounds 1 (.int .i64 m.frm)).all (·.oneCell') = true) := hid (by
    rw [show (z33.setIfInBounds 0 (.int .i64 9)).setIfInBounds 1 (.int .i64 m.frm) = (x33 9 m.frm).toArray from rfl]
    simp [x33, Value.oneCell'])
  clear hk
  go_enter Tryz.func40, Tryz.ntmps40
  go_wp2_with (first
    | ((with_reducible show wpList _ _ _ ({ dst := none, op := .store _ (.tmp 4) _, type := _, pos := _, after := _, guard := _ } :: _) _ _); refine wpl_store_st rfl (.tmp 4) (.tmp 10) rfl HZS.out (w.heap.size + 1 + 1) z33 ((z33.setIfInBounds 0 (.int .i64 9)).setIfInBounds 1 (.int .i64 m.frm)) rfl rfl R3.out ?_ (hid rfl) (hid (by simp [z33])) HX0; intro w3 hr3 hg3; have R := hid ((R1.out.alloc (.cells z33 45)).grown hg3 (by simp; omega)); have S := hid ((R2.out.alloc (.cells z33 45)).grown hg3 (by simp)); have X : Hid (Row w3 (w.heap.size + 1 + 1) 45 (x33 9 m.frm)) := hid hr3; replace HB := hid (HB.out.trans (below_grown hg3 (by omega) HB.out.size)); have c2 : w3.cell? ⟨w.heap.size, 2, none⟩ = some (.int .i64 m.view) := R.out.cell 2; clear hr3 hg3 R1 R2 R3 a0 a1)
    | ((with_reducible show wpList _ _ _ ({ dst := none, op := .store _ (.tmp 47) _, type := _, pos := _, after := _, guard := _ } :: _) _ _); refine wpl_st1 rfl 3 (.tmp 47) (.tmp 46) rfl (w.heap.size + 1 + 1) 2 (.int .i64 m.view) rfl rfl X sizeInt ?_ (hid (by simp [x33])) (hid rfl); clear c2; intro w4 X hg; replace R := hid (R.out.grown hg (by simp; omega)); replace S := hid (S.out.grown hg (by simp)); replace HB := hid (HB.out.trans (below_grown hg (by omega) HB.out.size)); clear hg)
    | ((with_reducible show wpList _ _ _ ({ dst := some 179, op := _, type := _, pos := _, after := _, guard := _ } :: _) _ _); refine wpList_load_row rfl 45 (.tmp 4) rfl (w.heap.size + 1 + 1) rfl 45 ((keptM m).cells (keptP m p)) (0, 0) _ (Row.arr (by
        have h := X.out
        have e : (List.set (x33 9 m.frm) 2 (.int .i64 m.view)) = ((keptM m).cells (keptP m p)).toList := by
          simp only [keptM, keptP, HK.out]
          rfl
        rw [e] at h
        exact h)) Tryz.underlying45 rfl HZS.out ?_)
    | ((with_reducible show wpList _ _ _ ({ dst := none, op := .store _ (.tmp 2) _, type := _, pos := _, after := _, guard := _ } :: _) _ _); refine wpl_store_st rfl (.tmp 2) (.tmp 179) rfl HZS.out (w.heap.size + 1) z33 ((keptM m).cells (keptP m p)) rfl rfl S.out ?_ (hid rfl) (hid rfl) (hid (by simp [Ms.cells, Value.oneCell'])); intro wz hrz hgz; replace HB := hid (HB.out.trans (below_grown hgz (by omega) HB.out.size))))
  refine bodyPost_ret (v := .agg ((keptM m).cells (keptP m p))) (results_cell_row rfl _ _ (w.heap.size + 1) 45 _ (0, 0) _ rfl (Row.arr hrz) Tryz.underlying45 rfl HZS.out) rfl ⟨rfl, HB.out⟩
set_option maxHeartbeats 4000000 in
theorem kept_10 (m : Ms) (p : Pl) (w : World) (hk : m.kind = 10) : Calls Tryz.prog 40 #[.agg (m.cells p)] w (VE w (.agg ((keptM m).cells (keptP m p)))) := by
  have HZS := hid mssize
  have hz := zero33
  have hzs := z33_size
  have hzn := z33_ne
  have R1 : Hid (Row ((w.alloc (.cells (m.cells p) 45)).alloc (.cells z33 45)) w.heap.size 45 (m.cells p).toList) := hid ((Row.new w 45 (m.cells p)).alloc _)
  have R2 : Hid (Row ((w.alloc (.cells (m.cells p) 45)).alloc (.cells z33 45)) (w.heap.size + 1) 45 z33.toList) := hid (by
    have := Row.new (w.alloc (.cells (m.cells p) 45)) 45 z33
    simpa using this)
  have R3 : Hid (Row (((w.alloc (.cells (m.cells p) 45)).alloc (.cells z33 45)).alloc (.cells z33 45)) (w.heap.size + 1 + 1) 45 z33.toList) := hid (by
    have := Row.new ((w.alloc (.cells (m.cells p) 45)).alloc (.cells z33 45)) 45 z33
    simpa using this)
  have HB : Hid (Below w.heap.size w (((w.alloc (.cells (m.cells p) 45)).alloc (.cells z33 45)).alloc (.cells z33 45))) := hid ((((Below.refl _ _).alloc (Nat.le_refl _) _).alloc (by simp) _).alloc (by simp; omega) _)
  have a0 : ((w.alloc (.cells (m.cells p) 45)).alloc (.cells z33 45)).cell? ⟨w.heap.size, 0, none⟩ = some (.int .i64 10) := by
    rw [R1.out.cell 0]
    show some (Value.int .i64 m.kind) = _
    rw [hk]
  have a1 : ((w.alloc (.cells (m.cells p) 45)).alloc (.cells z33 45)).cell? ⟨w.heap.size, 1, none⟩ = some (.int .i64 m.frm) := R1.out.cell 1
  have HK := hid hk
  have HX0 : Hid (((z33.setIfInBounds 0 (.int .i64 10)).setIfInBounds 1 (.int .i64 m.frm)).all (·.oneCell') = true) := hid (by
    rw [show (z33.setIfInBounds 0 (.int .i64 10)).setIfInBounds 1 (.int .i64 m.frm) = (x33 10 m.frm).toArray from rfl]
    simp [x33, Value.oneCell'])
  clear hk
  go_enter Tryz.func40, Tryz.ntmps40
  go_wp2_with (first
    | ((with_reducible show wpList _ _ _ ({ dst := none, op := .store _ (.tmp 4) _, type := _, pos := _, after := _, guard := _ } :: _) _ _); refine wpl_store_st rfl (.tmp 4) (.tmp 10) rfl HZS.out (w.heap.size + 1 + 1) z33 ((z33.setIfInBounds 0 (.int .i64 10)).setIfInBounds 1 (.int .i64 m.frm)) rfl rfl R3.out ?_ (hid rfl) (hid (by simp [z33])) HX0; intro w3 hr3 hg3; have R := hid ((R1.out.alloc (.cells z33 45)).grown hg3 (by simp; omega)); have S := hid ((R2.out.alloc (.cells z33 45)).grown hg3 (by simp)); have X : Hid (Row w3 (w.heap.size + 1 + 1) 45 (x33 10 m.frm)) := hid hr3; replace HB := hid (HB.out.trans (below_grown hg3 (by omega) HB.out.size)); have c4 : w3.cell? ⟨w.heap.size, 4, none⟩ = some (.int .i64 m.opn) := R.out.cell 4; clear hr3 hg3 R1 R2 R3 a0 a1)
    | ((with_reducible show wpList _ _ _ ({ dst := none, op := .store _ (.tmp 72) _, type := _, pos := _, after := _, guard := _ } :: _) _ _); refine wpl_st1 rfl 3 (.tmp 72) (.tmp 71) rfl (w.heap.size + 1 + 1) 4 (.int .i64 m.opn) rfl rfl X sizeInt ?_ (hid (by simp [x33])) (hid rfl); clear c4; intro w4 X hg; replace R := hid (R.out.grown hg (by simp; omega)); replace S := hid (S.out.grown hg (by simp)); replace HB := hid (HB.out.trans (below_grown hg (by omega) HB.out.size)); clear hg)
    | ((with_reducible show wpList _ _ _ ({ dst := some 179, op := _, type := _, pos := _, after := _, guard := _ } :: _) _ _); refine wpList_load_row rfl 45 (.tmp 4) rfl (w.heap.size + 1 + 1) rfl 45 ((keptM m).cells (keptP m p)) (0, 0) _ (Row.arr (by
        have h := X.out
        have e : (List.set (x33 10 m.frm) 4 (.int .i64 m.opn)) = ((keptM m).cells (keptP m p)).toList := by
          simp only [keptM, keptP, HK.out]
          rfl
        rw [e] at h
        exact h)) Tryz.underlying45 rfl HZS.out ?_)
    | ((with_reducible show wpList _ _ _ ({ dst := none, op := .store _ (.tmp 2) _, type := _, pos := _, after := _, guard := _ } :: _) _ _); refine wpl_store_st rfl (.tmp 2) (.tmp 179) rfl HZS.out (w.heap.size + 1) z33 ((keptM m).cells (keptP m p)) rfl rfl S.out ?_ (hid rfl) (hid rfl) (hid (by simp [Ms.cells, Value.oneCell'])); intro wz hrz hgz; replace HB := hid (HB.out.trans (below_grown hgz (by omega) HB.out.size))))
  refine bodyPost_ret (v := .agg ((keptM m).cells (keptP m p))) (results_cell_row rfl _ _ (w.heap.size + 1) 45 _ (0, 0) _ rfl (Row.arr hrz) Tryz.underlying45 rfl HZS.out) rfl ⟨rfl, HB.out⟩
set_option maxHeartbeats 4000000 in
theorem kept_11 (m : Ms) (p : Pl) (w : World) (hk : m.kind = 11) : Calls Tryz.prog 40 #[.agg (m.cells p)] w (VE w (.agg ((keptM m).cells (keptP m p)))) := by
  have HZS := hid mssize
  have hz := zero33
  have hzs := z33_size
  have hzn := z33_ne
  have R1 : Hid (Row ((w.alloc (.cells (m.cells p) 45)).alloc (.cells z33 45)) w.heap.size 45 (m.cells p).toList) := hid ((Row.new w 45 (m.cells p)).alloc _)
  have R2 : Hid (Row ((w.alloc (.cells (m.cells p) 45)).alloc (.cells z33 45)) (w.heap.size + 1) 45 z33.toList) := hid (by
    have := Row.new (w.alloc (.cells (m.cells p) 45)) 45 z33
    simpa using this)
  have R3 : Hid (Row (((w.alloc (.cells (m.cells p) 45)).alloc (.cells z33 45)).alloc (.cells z33 45)) (w.heap.size + 1 + 1) 45 z33.toList) := hid (by
    have := Row.new ((w.alloc (.cells (m.cells p) 45)).alloc (.cells z33 45)) 45 z33
    simpa using this)
  have HB : Hid (Below w.heap.size w (((w.alloc (.cells (m.cells p) 45)).alloc (.cells z33 45)).alloc (.cells z33 45))) := hid ((((Below.refl _ _).alloc (Nat.le_refl _) _).alloc (by simp) _).alloc (by simp; omega) _)
  have a0 : ((w.alloc (.cells (m.cells p) 45)).alloc (.cells z33 45)).cell? ⟨w.heap.size, 0, none⟩ = some (.int .i64 11) := by
    rw [R1.out.cell 0]
    show some (Value.int .i64 m.kind) = _
    rw [hk]
  have a1 : ((w.alloc (.cells (m.cells p) 45)).alloc (.cells z33 45)).cell? ⟨w.heap.size, 1, none⟩ = some (.int .i64 m.frm) := R1.out.cell 1
  have HK := hid hk
  have HX0 : Hid (((z33.setIfInBounds 0 (.int .i64 11)).setIfInBounds 1 (.int .i64 m.frm)).all (·.oneCell') = true) := hid (by
    rw [show (z33.setIfInBounds 0 (.int .i64 11)).setIfInBounds 1 (.int .i64 m.frm) = (x33 11 m.frm).toArray from rfl]
    simp [x33, Value.oneCell'])
  clear hk
  go_enter Tryz.func40, Tryz.ntmps40
  go_wp2_with (first
    | ((with_reducible show wpList _ _ _ ({ dst := none, op := .store _ (.tmp 4) _, type := _, pos := _, after := _, guard := _ } :: _) _ _); refine wpl_store_st rfl (.tmp 4) (.tmp 10) rfl HZS.out (w.heap.size + 1 + 1) z33 ((z33.setIfInBounds 0 (.int .i64 11)).setIfInBounds 1 (.int .i64 m.frm)) rfl rfl R3.out ?_ (hid rfl) (hid (by simp [z33])) HX0; intro w3 hr3 hg3; have R := hid ((R1.out.alloc (.cells z33 45)).grown hg3 (by simp; omega)); have S := hid ((R2.out.alloc (.cells z33 45)).grown hg3 (by simp)); have X : Hid (Row w3 (w.heap.size + 1 + 1) 45 (x33 11 m.frm)) := hid hr3; replace HB := hid (HB.out.trans (below_grown hg3 (by omega) HB.out.size)); clear hr3 hg3 R1 R2 R3 a0 a1)
    | ((with_reducible show wpList _ _ _ ({ dst := some 159, op := _, type := _, pos := _, after := _, guard := _ } :: _) _ _); refine wpl_load_midw rfl 35 (.tmp 158) rfl w.heap.size 21 rfl (Array.toList m.entry.cells) _ (ms_entry R.out) Tryz.underlying35 rfl (by exact esize) ?_)
    | ((with_reducible show wpList _ _ _ ({ dst := none, op := .store _ (.tmp 160) _, type := _, pos := _, after := _, guard := _ } :: _) _ _); refine wpl_store_at rfl (.tmp 160) (.tmp 159) rfl esize (w.heap.size + 1 + 1) 21 _ (Array.toList m.entry.cells) rfl rfl X ?_ (hid (by simp [x33, En.cells])) (hid rfl) (hid (by simp [En.cells, Value.oneCell'])); intro w4 X hg; replace R := hid (R.out.grown hg (by simp; omega)); replace S := hid (S.out.grown hg (by simp)); replace HB := hid (HB.out.trans (below_grown hg (by omega) HB.out.size)); clear hg)
    | ((with_reducible show wpList _ _ _ ({ dst := some 179, op := _, type := _, pos := _, after := _, guard := _ } :: _) _ _); refine wpList_load_row rfl 45 (.tmp 4) rfl (w.heap.size + 1 + 1) rfl 45 ((keptM m).cells (keptP m p)) (0, 0) _ (Row.arr (by
        have h := X.out
        have e : (splice (x33 11 m.frm) 21 (Array.toList m.entry.cells)) = ((keptM m).cells (keptP m p)).toList := by
          simp only [keptM, keptP, HK.out]
          rfl
        rw [e] at h
        exact h)) Tryz.underlying45 rfl HZS.out ?_)
    | ((with_reducible show wpList _ _ _ ({ dst := none, op := .store _ (.tmp 2) _, type := _, pos := _, after := _, guard := _ } :: _) _ _); refine wpl_store_st rfl (.tmp 2) (.tmp 179) rfl HZS.out (w.heap.size + 1) z33 ((keptM m).cells (keptP m p)) rfl rfl S.out ?_ (hid rfl) (hid rfl) (hid (by simp [Ms.cells, Value.oneCell'])); intro wz hrz hgz; replace HB := hid (HB.out.trans (below_grown hgz (by omega) HB.out.size))))
  refine bodyPost_ret (v := .agg ((keptM m).cells (keptP m p))) (results_cell_row rfl _ _ (w.heap.size + 1) 45 _ (0, 0) _ rfl (Row.arr hrz) Tryz.underlying45 rfl HZS.out) rfl ⟨rfl, HB.out⟩
set_option maxHeartbeats 4000000 in
theorem kept_12 (m : Ms) (p : Pl) (w : World) (hk : m.kind = 12) : Calls Tryz.prog 40 #[.agg (m.cells p)] w (VE w (.agg ((keptM m).cells (keptP m p)))) := by
  have HZS := hid mssize
  have hz := zero33
  have hzs := z33_size
  have hzn := z33_ne
  have R1 : Hid (Row ((w.alloc (.cells (m.cells p) 45)).alloc (.cells z33 45)) w.heap.size 45 (m.cells p).toList) := hid ((Row.new w 45 (m.cells p)).alloc _)
  have R2 : Hid (Row ((w.alloc (.cells (m.cells p) 45)).alloc (.cells z33 45)) (w.heap.size + 1) 45 z33.toList) := hid (by
    have := Row.new (w.alloc (.cells (m.cells p) 45)) 45 z33
    simpa using this)
  have R3 : Hid (Row (((w.alloc (.cells (m.cells p) 45)).alloc (.cells z33 45)).alloc (.cells z33 45)) (w.heap.size + 1 + 1) 45 z33.toList) := hid (by
    have := Row.new ((w.alloc (.cells (m.cells p) 45)).alloc (.cells z33 45)) 45 z33
    simpa using this)
  have HB : Hid (Below w.heap.size w (((w.alloc (.cells (m.cells p) 45)).alloc (.cells z33 45)).alloc (.cells z33 45))) := hid ((((Below.refl _ _).alloc (Nat.le_refl _) _).alloc (by simp) _).alloc (by simp; omega) _)
  have a0 : ((w.alloc (.cells (m.cells p) 45)).alloc (.cells z33 45)).cell? ⟨w.heap.size, 0, none⟩ = some (.int .i64 12) := by
    rw [R1.out.cell 0]
    show some (Value.int .i64 m.kind) = _
    rw [hk]
  have a1 : ((w.alloc (.cells (m.cells p) 45)).alloc (.cells z33 45)).cell? ⟨w.heap.size, 1, none⟩ = some (.int .i64 m.frm) := R1.out.cell 1
  have HK := hid hk
  have HX0 : Hid (((z33.setIfInBounds 0 (.int .i64 12)).setIfInBounds 1 (.int .i64 m.frm)).all (·.oneCell') = true) := hid (by
    rw [show (z33.setIfInBounds 0 (.int .i64 12)).setIfInBounds 1 (.int .i64 m.frm) = (x33 12 m.frm).toArray from rfl]
    simp [x33, Value.oneCell'])
  clear hk
  go_enter Tryz.func40, Tryz.ntmps40
  go_wp2_with (first
    | ((with_reducible show wpList _ _ _ ({ dst := none, op := .store _ (.tmp 4) _, type := _, pos := _, after := _, guard := _ } :: _) _ _); refine wpl_store_st rfl (.tmp 4) (.tmp 10) rfl HZS.out (w.heap.size + 1 + 1) z33 ((z33.setIfInBounds 0 (.int .i64 12)).setIfInBounds 1 (.int .i64 m.frm)) rfl rfl R3.out ?_ (hid rfl) (hid (by simp [z33])) HX0; intro w3 hr3 hg3; have R := hid ((R1.out.alloc (.cells z33 45)).grown hg3 (by simp; omega)); have S := hid ((R2.out.alloc (.cells z33 45)).grown hg3 (by simp)); have X : Hid (Row w3 (w.heap.size + 1 + 1) 45 (x33 12 m.frm)) := hid hr3; replace HB := hid (HB.out.trans (below_grown hg3 (by omega) HB.out.size)); clear hr3 hg3 R1 R2 R3 a0 a1)
    | ((with_reducible show wpList _ _ _ ({ dst := some 179, op := _, type := _, pos := _, after := _, guard := _ } :: _) _ _); refine wpList_load_row rfl 45 (.tmp 4) rfl (w.heap.size + 1 + 1) rfl 45 ((keptM m).cells (keptP m p)) (0, 0) _ (Row.arr (by
        have h := X.out
        have e : (x33 12 m.frm) = ((keptM m).cells (keptP m p)).toList := by
          simp only [keptM, keptP, HK.out]
          rfl
        rw [e] at h
        exact h)) Tryz.underlying45 rfl HZS.out ?_)
    | ((with_reducible show wpList _ _ _ ({ dst := none, op := .store _ (.tmp 2) _, type := _, pos := _, after := _, guard := _ } :: _) _ _); refine wpl_store_st rfl (.tmp 2) (.tmp 179) rfl HZS.out (w.heap.size + 1) z33 ((keptM m).cells (keptP m p)) rfl rfl S.out ?_ (hid rfl) (hid rfl) (hid (by simp [Ms.cells, Value.oneCell'])); intro wz hrz hgz; replace HB := hid (HB.out.trans (below_grown hgz (by omega) HB.out.size))))
  refine bodyPost_ret (v := .agg ((keptM m).cells (keptP m p))) (results_cell_row rfl _ _ (w.heap.size + 1) 45 _ (0, 0) _ rfl (Row.arr hrz) Tryz.underlying45 rfl HZS.out) rfl ⟨rfl, HB.out⟩
set_option maxHeartbeats 4000000 in
theorem kept_13 (m : Ms) (p : Pl) (w : World) (hk : m.kind = 13) : Calls Tryz.prog 40 #[.agg (m.cells p)] w (VE w (.agg ((keptM m).cells (keptP m p)))) := by
  have HZS := hid mssize
  have hz := zero33
  have hzs := z33_size
  have hzn := z33_ne
  have R1 : Hid (Row ((w.alloc (.cells (m.cells p) 45)).alloc (.cells z33 45)) w.heap.size 45 (m.cells p).toList) := hid ((Row.new w 45 (m.cells p)).alloc _)
  have R2 : Hid (Row ((w.alloc (.cells (m.cells p) 45)).alloc (.cells z33 45)) (w.heap.size + 1) 45 z33.toList) := hid (by
    have := Row.new (w.alloc (.cells (m.cells p) 45)) 45 z33
    simpa using this)
  have R3 : Hid (Row (((w.alloc (.cells (m.cells p) 45)).alloc (.cells z33 45)).alloc (.cells z33 45)) (w.heap.size + 1 + 1) 45 z33.toList) := hid (by
    have := Row.new ((w.alloc (.cells (m.cells p) 45)).alloc (.cells z33 45)) 45 z33
    simpa using this)
  have HB : Hid (Below w.heap.size w (((w.alloc (.cells (m.cells p) 45)).alloc (.cells z33 45)).alloc (.cells z33 45))) := hid ((((Below.refl _ _).alloc (Nat.le_refl _) _).alloc (by simp) _).alloc (by simp; omega) _)
  have a0 : ((w.alloc (.cells (m.cells p) 45)).alloc (.cells z33 45)).cell? ⟨w.heap.size, 0, none⟩ = some (.int .i64 13) := by
    rw [R1.out.cell 0]
    show some (Value.int .i64 m.kind) = _
    rw [hk]
  have a1 : ((w.alloc (.cells (m.cells p) 45)).alloc (.cells z33 45)).cell? ⟨w.heap.size, 1, none⟩ = some (.int .i64 m.frm) := R1.out.cell 1
  have HK := hid hk
  have HX0 : Hid (((z33.setIfInBounds 0 (.int .i64 13)).setIfInBounds 1 (.int .i64 m.frm)).all (·.oneCell') = true) := hid (by
    rw [show (z33.setIfInBounds 0 (.int .i64 13)).setIfInBounds 1 (.int .i64 m.frm) = (x33 13 m.frm).toArray from rfl]
    simp [x33, Value.oneCell'])
  clear hk
  go_enter Tryz.func40, Tryz.ntmps40
  go_wp2_with (first
    | ((with_reducible show wpList _ _ _ ({ dst := none, op := .store _ (.tmp 4) _, type := _, pos := _, after := _, guard := _ } :: _) _ _); refine wpl_store_st rfl (.tmp 4) (.tmp 10) rfl HZS.out (w.heap.size + 1 + 1) z33 ((z33.setIfInBounds 0 (.int .i64 13)).setIfInBounds 1 (.int .i64 m.frm)) rfl rfl R3.out ?_ (hid rfl) (hid (by simp [z33])) HX0; intro w3 hr3 hg3; have R := hid ((R1.out.alloc (.cells z33 45)).grown hg3 (by simp; omega)); have S := hid ((R2.out.alloc (.cells z33 45)).grown hg3 (by simp)); have X : Hid (Row w3 (w.heap.size + 1 + 1) 45 (x33 13 m.frm)) := hid hr3; replace HB := hid (HB.out.trans (below_grown hg3 (by omega) HB.out.size)); have c11 : w3.cell? ⟨w.heap.size, 11, none⟩ = some (.int .i64 m.size) := R.out.cell 11; clear hr3 hg3 R1 R2 R3 a0 a1)
    | ((with_reducible show wpList _ _ _ ({ dst := none, op := .store _ (.tmp 127) _, type := _, pos := _, after := _, guard := _ } :: _) _ _); refine wpl_st1 rfl 3 (.tmp 127) (.tmp 126) rfl (w.heap.size + 1 + 1) 11 (.int .i64 m.size) rfl rfl X sizeInt ?_ (hid (by simp [x33])) (hid rfl); clear c11; intro w4 X hg; replace R := hid (R.out.grown hg (by simp; omega)); replace S := hid (S.out.grown hg (by simp)); replace HB := hid (HB.out.trans (below_grown hg (by omega) HB.out.size)); clear hg)
    | ((with_reducible show wpList _ _ _ ({ dst := some 129, op := _, type := _, pos := _, after := _, guard := _ } :: _) _ _); refine wpl_load_midw rfl 42 (.tmp 128) rfl w.heap.size 15 rfl (Array.toList (sixV m.sums)) _ (ms_sums R.out) Tryz.underlying42 rfl (by exact size6) ?_)
    | ((with_reducible show wpList _ _ _ ({ dst := none, op := .store _ (.tmp 130) _, type := _, pos := _, after := _, guard := _ } :: _) _ _); refine wpl_store_at rfl (.tmp 130) (.tmp 129) rfl size6 (w.heap.size + 1 + 1) 15 _ (Array.toList (sixV m.sums)) rfl rfl X ?_ (hid (by simp [x33, sixV])) (hid rfl) (hid (by simp [sixV, Value.oneCell'])); intro w5 X hg; replace R := hid (R.out.grown hg (by simp; omega)); replace S := hid (S.out.grown hg (by simp)); replace HB := hid (HB.out.trans (below_grown hg (by omega) HB.out.size)); clear hg)
    | ((with_reducible show wpList _ _ _ ({ dst := some 150, op := _, type := _, pos := _, after := _, guard := _ } :: _) _ _); refine wpl_load_midw rfl 27 (.tmp 149) rfl w.heap.size 12 rfl (Array.toList m.check.cells) _ (ms_check R.out) Tryz.underlying27 rfl (by exact msize) ?_)
    | ((with_reducible show wpList _ _ _ ({ dst := none, op := .store _ (.tmp 151) _, type := _, pos := _, after := _, guard := _ } :: _) _ _); refine wpl_store_at rfl (.tmp 151) (.tmp 150) rfl msize (w.heap.size + 1 + 1) 12 _ (Array.toList m.check.cells) rfl rfl X ?_ (hid (by simp [x33, splice, Mk.cells, sixV])) (hid rfl) (hid (by simp [Mk.cells, Value.oneCell'])); intro w6 X hg; replace R := hid (R.out.grown hg (by simp; omega)); replace S := hid (S.out.grown hg (by simp)); replace HB := hid (HB.out.trans (below_grown hg (by omega) HB.out.size)); clear hg)
    | ((with_reducible show wpList _ _ _ ({ dst := some 179, op := _, type := _, pos := _, after := _, guard := _ } :: _) _ _); refine wpList_load_row rfl 45 (.tmp 4) rfl (w.heap.size + 1 + 1) rfl 45 ((keptM m).cells (keptP m p)) (0, 0) _ (Row.arr (by
        have h := X.out
        have e : (splice (splice (List.set (x33 13 m.frm) 11 (.int .i64 m.size)) 15 (Array.toList (sixV m.sums))) 12 (Array.toList m.check.cells)) = ((keptM m).cells (keptP m p)).toList := by
          simp only [keptM, keptP, HK.out]
          rfl
        rw [e] at h
        exact h)) Tryz.underlying45 rfl HZS.out ?_)
    | ((with_reducible show wpList _ _ _ ({ dst := none, op := .store _ (.tmp 2) _, type := _, pos := _, after := _, guard := _ } :: _) _ _); refine wpl_store_st rfl (.tmp 2) (.tmp 179) rfl HZS.out (w.heap.size + 1) z33 ((keptM m).cells (keptP m p)) rfl rfl S.out ?_ (hid rfl) (hid rfl) (hid (by simp [Ms.cells, Value.oneCell'])); intro wz hrz hgz; replace HB := hid (HB.out.trans (below_grown hgz (by omega) HB.out.size))))
  refine bodyPost_ret (v := .agg ((keptM m).cells (keptP m p))) (results_cell_row rfl _ _ (w.heap.size + 1) 45 _ (0, 0) _ rfl (Row.arr hrz) Tryz.underlying45 rfl HZS.out) rfl ⟨rfl, HB.out⟩
set_option maxHeartbeats 4000000 in
theorem kept_14 (m : Ms) (p : Pl) (w : World) (hk : m.kind = 14) : Calls Tryz.prog 40 #[.agg (m.cells p)] w (VE w (.agg ((keptM m).cells (keptP m p)))) := by
  have HZS := hid mssize
  have hz := zero33
  have hzs := z33_size
  have hzn := z33_ne
  have R1 : Hid (Row ((w.alloc (.cells (m.cells p) 45)).alloc (.cells z33 45)) w.heap.size 45 (m.cells p).toList) := hid ((Row.new w 45 (m.cells p)).alloc _)
  have R2 : Hid (Row ((w.alloc (.cells (m.cells p) 45)).alloc (.cells z33 45)) (w.heap.size + 1) 45 z33.toList) := hid (by
    have := Row.new (w.alloc (.cells (m.cells p) 45)) 45 z33
    simpa using this)
  have R3 : Hid (Row (((w.alloc (.cells (m.cells p) 45)).alloc (.cells z33 45)).alloc (.cells z33 45)) (w.heap.size + 1 + 1) 45 z33.toList) := hid (by
    have := Row.new ((w.alloc (.cells (m.cells p) 45)).alloc (.cells z33 45)) 45 z33
    simpa using this)
  have HB : Hid (Below w.heap.size w (((w.alloc (.cells (m.cells p) 45)).alloc (.cells z33 45)).alloc (.cells z33 45))) := hid ((((Below.refl _ _).alloc (Nat.le_refl _) _).alloc (by simp) _).alloc (by simp; omega) _)
  have a0 : ((w.alloc (.cells (m.cells p) 45)).alloc (.cells z33 45)).cell? ⟨w.heap.size, 0, none⟩ = some (.int .i64 14) := by
    rw [R1.out.cell 0]
    show some (Value.int .i64 m.kind) = _
    rw [hk]
  have a1 : ((w.alloc (.cells (m.cells p) 45)).alloc (.cells z33 45)).cell? ⟨w.heap.size, 1, none⟩ = some (.int .i64 m.frm) := R1.out.cell 1
  have HK := hid hk
  have HX0 : Hid (((z33.setIfInBounds 0 (.int .i64 14)).setIfInBounds 1 (.int .i64 m.frm)).all (·.oneCell') = true) := hid (by
    rw [show (z33.setIfInBounds 0 (.int .i64 14)).setIfInBounds 1 (.int .i64 m.frm) = (x33 14 m.frm).toArray from rfl]
    simp [x33, Value.oneCell'])
  clear hk
  go_enter Tryz.func40, Tryz.ntmps40
  go_wp2_with (first
    | ((with_reducible show wpList _ _ _ ({ dst := none, op := .store _ (.tmp 4) _, type := _, pos := _, after := _, guard := _ } :: _) _ _); refine wpl_store_st rfl (.tmp 4) (.tmp 10) rfl HZS.out (w.heap.size + 1 + 1) z33 ((z33.setIfInBounds 0 (.int .i64 14)).setIfInBounds 1 (.int .i64 m.frm)) rfl rfl R3.out ?_ (hid rfl) (hid (by simp [z33])) HX0; intro w3 hr3 hg3; have R := hid ((R1.out.alloc (.cells z33 45)).grown hg3 (by simp; omega)); have S := hid ((R2.out.alloc (.cells z33 45)).grown hg3 (by simp)); have X : Hid (Row w3 (w.heap.size + 1 + 1) 45 (x33 14 m.frm)) := hid hr3; replace HB := hid (HB.out.trans (below_grown hg3 (by omega) HB.out.size)); have c10 : w3.cell? ⟨w.heap.size, 10, none⟩ = some (.int .i64 m.index) := R.out.cell 10; clear hr3 hg3 R1 R2 R3 a0 a1)
    | ((with_reducible show wpList _ _ _ ({ dst := none, op := .store _ (.tmp 122) _, type := _, pos := _, after := _, guard := _ } :: _) _ _); refine wpl_st1 rfl 3 (.tmp 122) (.tmp 121) rfl (w.heap.size + 1 + 1) 10 (.int .i64 m.index) rfl rfl X sizeInt ?_ (hid (by simp [x33])) (hid rfl); clear c10; intro w4 X hg; replace R := hid (R.out.grown hg (by simp; omega)); replace S := hid (S.out.grown hg (by simp)); replace HB := hid (HB.out.trans (below_grown hg (by omega) HB.out.size)); clear hg)
    | ((with_reducible show wpList _ _ _ ({ dst := some 150, op := _, type := _, pos := _, after := _, guard := _ } :: _) _ _); refine wpl_load_midw rfl 27 (.tmp 149) rfl w.heap.size 12 rfl (Array.toList m.check.cells) _ (ms_check R.out) Tryz.underlying27 rfl (by exact msize) ?_)
    | ((with_reducible show wpList _ _ _ ({ dst := none, op := .store _ (.tmp 151) _, type := _, pos := _, after := _, guard := _ } :: _) _ _); refine wpl_store_at rfl (.tmp 151) (.tmp 150) rfl msize (w.heap.size + 1 + 1) 12 _ (Array.toList m.check.cells) rfl rfl X ?_ (hid (by simp [x33, Mk.cells])) (hid rfl) (hid (by simp [Mk.cells, Value.oneCell'])); intro w5 X hg; replace R := hid (R.out.grown hg (by simp; omega)); replace S := hid (S.out.grown hg (by simp)); replace HB := hid (HB.out.trans (below_grown hg (by omega) HB.out.size)); clear hg)
    | ((with_reducible show wpList _ _ _ ({ dst := some 179, op := _, type := _, pos := _, after := _, guard := _ } :: _) _ _); refine wpList_load_row rfl 45 (.tmp 4) rfl (w.heap.size + 1 + 1) rfl 45 ((keptM m).cells (keptP m p)) (0, 0) _ (Row.arr (by
        have h := X.out
        have e : (splice (List.set (x33 14 m.frm) 10 (.int .i64 m.index)) 12 (Array.toList m.check.cells)) = ((keptM m).cells (keptP m p)).toList := by
          simp only [keptM, keptP, HK.out]
          rfl
        rw [e] at h
        exact h)) Tryz.underlying45 rfl HZS.out ?_)
    | ((with_reducible show wpList _ _ _ ({ dst := none, op := .store _ (.tmp 2) _, type := _, pos := _, after := _, guard := _ } :: _) _ _); refine wpl_store_st rfl (.tmp 2) (.tmp 179) rfl HZS.out (w.heap.size + 1) z33 ((keptM m).cells (keptP m p)) rfl rfl S.out ?_ (hid rfl) (hid rfl) (hid (by simp [Ms.cells, Value.oneCell'])); intro wz hrz hgz; replace HB := hid (HB.out.trans (below_grown hgz (by omega) HB.out.size))))
  refine bodyPost_ret (v := .agg ((keptM m).cells (keptP m p))) (results_cell_row rfl _ _ (w.heap.size + 1) 45 _ (0, 0) _ rfl (Row.arr hrz) Tryz.underlying45 rfl HZS.out) rfl ⟨rfl, HB.out⟩
set_option maxHeartbeats 4000000 in
theorem kept_15 (m : Ms) (p : Pl) (w : World) (hk : m.kind = 15) : Calls Tryz.prog 40 #[.agg (m.cells p)] w (VE w (.agg ((keptM m).cells (keptP m p)))) := by
  have HZS := hid mssize
  have hz := zero33
  have hzs := z33_size
  have hzn := z33_ne
  have R1 : Hid (Row ((w.alloc (.cells (m.cells p) 45)).alloc (.cells z33 45)) w.heap.size 45 (m.cells p).toList) := hid ((Row.new w 45 (m.cells p)).alloc _)
  have R2 : Hid (Row ((w.alloc (.cells (m.cells p) 45)).alloc (.cells z33 45)) (w.heap.size + 1) 45 z33.toList) := hid (by
    have := Row.new (w.alloc (.cells (m.cells p) 45)) 45 z33
    simpa using this)
  have R3 : Hid (Row (((w.alloc (.cells (m.cells p) 45)).alloc (.cells z33 45)).alloc (.cells z33 45)) (w.heap.size + 1 + 1) 45 z33.toList) := hid (by
    have := Row.new ((w.alloc (.cells (m.cells p) 45)).alloc (.cells z33 45)) 45 z33
    simpa using this)
  have HB : Hid (Below w.heap.size w (((w.alloc (.cells (m.cells p) 45)).alloc (.cells z33 45)).alloc (.cells z33 45))) := hid ((((Below.refl _ _).alloc (Nat.le_refl _) _).alloc (by simp) _).alloc (by simp; omega) _)
  have a0 : ((w.alloc (.cells (m.cells p) 45)).alloc (.cells z33 45)).cell? ⟨w.heap.size, 0, none⟩ = some (.int .i64 15) := by
    rw [R1.out.cell 0]
    show some (Value.int .i64 m.kind) = _
    rw [hk]
  have a1 : ((w.alloc (.cells (m.cells p) 45)).alloc (.cells z33 45)).cell? ⟨w.heap.size, 1, none⟩ = some (.int .i64 m.frm) := R1.out.cell 1
  have HK := hid hk
  have HX0 : Hid (((z33.setIfInBounds 0 (.int .i64 15)).setIfInBounds 1 (.int .i64 m.frm)).all (·.oneCell') = true) := hid (by
    rw [show (z33.setIfInBounds 0 (.int .i64 15)).setIfInBounds 1 (.int .i64 m.frm) = (x33 15 m.frm).toArray from rfl]
    simp [x33, Value.oneCell'])
  clear hk
  go_enter Tryz.func40, Tryz.ntmps40
  go_wp2_with (first
    | ((with_reducible show wpList _ _ _ ({ dst := none, op := .store _ (.tmp 4) _, type := _, pos := _, after := _, guard := _ } :: _) _ _); refine wpl_store_st rfl (.tmp 4) (.tmp 10) rfl HZS.out (w.heap.size + 1 + 1) z33 ((z33.setIfInBounds 0 (.int .i64 15)).setIfInBounds 1 (.int .i64 m.frm)) rfl rfl R3.out ?_ (hid rfl) (hid (by simp [z33])) HX0; intro w3 hr3 hg3; have R := hid ((R1.out.alloc (.cells z33 45)).grown hg3 (by simp; omega)); have S := hid ((R2.out.alloc (.cells z33 45)).grown hg3 (by simp)); have X : Hid (Row w3 (w.heap.size + 1 + 1) 45 (x33 15 m.frm)) := hid hr3; replace HB := hid (HB.out.trans (below_grown hg3 (by omega) HB.out.size)); have c10 : w3.cell? ⟨w.heap.size, 10, none⟩ = some (.int .i64 m.index) := R.out.cell 10; clear hr3 hg3 R1 R2 R3 a0 a1)
    | ((with_reducible show wpList _ _ _ ({ dst := none, op := .store _ (.tmp 122) _, type := _, pos := _, after := _, guard := _ } :: _) _ _); refine wpl_st1 rfl 3 (.tmp 122) (.tmp 121) rfl (w.heap.size + 1 + 1) 10 (.int .i64 m.index) rfl rfl X sizeInt ?_ (hid (by simp [x33])) (hid rfl); clear c10; intro w4 X hg; replace R := hid (R.out.grown hg (by simp; omega)); replace S := hid (S.out.grown hg (by simp)); replace HB := hid (HB.out.trans (below_grown hg (by omega) HB.out.size)); clear hg)
    | ((with_reducible show wpList _ _ _ ({ dst := some 150, op := _, type := _, pos := _, after := _, guard := _ } :: _) _ _); refine wpl_load_midw rfl 27 (.tmp 149) rfl w.heap.size 12 rfl (Array.toList m.check.cells) _ (ms_check R.out) Tryz.underlying27 rfl (by exact msize) ?_)
    | ((with_reducible show wpList _ _ _ ({ dst := none, op := .store _ (.tmp 151) _, type := _, pos := _, after := _, guard := _ } :: _) _ _); refine wpl_store_at rfl (.tmp 151) (.tmp 150) rfl msize (w.heap.size + 1 + 1) 12 _ (Array.toList m.check.cells) rfl rfl X ?_ (hid (by simp [x33, Mk.cells])) (hid rfl) (hid (by simp [Mk.cells, Value.oneCell'])); intro w5 X hg; replace R := hid (R.out.grown hg (by simp; omega)); replace S := hid (S.out.grown hg (by simp)); replace HB := hid (HB.out.trans (below_grown hg (by omega) HB.out.size)); have c32 : w5.cell? ⟨w.heap.size, 32, none⟩ = some (.string m.body) := R.out.cell 32; clear hg)
    | ((with_reducible show wpList _ _ _ ({ dst := none, op := .store _ (.tmp 178) _, type := _, pos := _, after := _, guard := _ } :: _) _ _); refine wpl_st1 rfl 9 (.tmp 178) (.tmp 177) rfl (w.heap.size + 1 + 1) 32 (.string m.body) rfl rfl X sizeStr ?_ (hid (by simp [x33, splice, Mk.cells])) (hid rfl); clear c32; intro w6 X hg; replace R := hid (R.out.grown hg (by simp; omega)); replace S := hid (S.out.grown hg (by simp)); replace HB := hid (HB.out.trans (below_grown hg (by omega) HB.out.size)); clear hg)
    | ((with_reducible show wpList _ _ _ ({ dst := some 179, op := _, type := _, pos := _, after := _, guard := _ } :: _) _ _); refine wpList_load_row rfl 45 (.tmp 4) rfl (w.heap.size + 1 + 1) rfl 45 ((keptM m).cells (keptP m p)) (0, 0) _ (Row.arr (by
        have h := X.out
        have e : (List.set (splice (List.set (x33 15 m.frm) 10 (.int .i64 m.index)) 12 (Array.toList m.check.cells)) 32 (.string m.body)) = ((keptM m).cells (keptP m p)).toList := by
          simp only [keptM, keptP, HK.out]
          rfl
        rw [e] at h
        exact h)) Tryz.underlying45 rfl HZS.out ?_)
    | ((with_reducible show wpList _ _ _ ({ dst := none, op := .store _ (.tmp 2) _, type := _, pos := _, after := _, guard := _ } :: _) _ _); refine wpl_store_st rfl (.tmp 2) (.tmp 179) rfl HZS.out (w.heap.size + 1) z33 ((keptM m).cells (keptP m p)) rfl rfl S.out ?_ (hid rfl) (hid rfl) (hid (by simp [Ms.cells, Value.oneCell'])); intro wz hrz hgz; replace HB := hid (HB.out.trans (below_grown hgz (by omega) HB.out.size))))
  refine bodyPost_ret (v := .agg ((keptM m).cells (keptP m p))) (results_cell_row rfl _ _ (w.heap.size + 1) 45 _ (0, 0) _ rfl (Row.arr hrz) Tryz.underlying45 rfl HZS.out) rfl ⟨rfl, HB.out⟩
set_option maxHeartbeats 4000000 in
theorem kept_16 (m : Ms) (p : Pl) (w : World) (hk : m.kind = 16) : Calls Tryz.prog 40 #[.agg (m.cells p)] w (VE w (.agg ((keptM m).cells (keptP m p)))) := by
  have HZS := hid mssize
  have hz := zero33
  have hzs := z33_size
  have hzn := z33_ne
  have R1 : Hid (Row ((w.alloc (.cells (m.cells p) 45)).alloc (.cells z33 45)) w.heap.size 45 (m.cells p).toList) := hid ((Row.new w 45 (m.cells p)).alloc _)
  have R2 : Hid (Row ((w.alloc (.cells (m.cells p) 45)).alloc (.cells z33 45)) (w.heap.size + 1) 45 z33.toList) := hid (by
    have := Row.new (w.alloc (.cells (m.cells p) 45)) 45 z33
    simpa using this)
  have R3 : Hid (Row (((w.alloc (.cells (m.cells p) 45)).alloc (.cells z33 45)).alloc (.cells z33 45)) (w.heap.size + 1 + 1) 45 z33.toList) := hid (by
    have := Row.new ((w.alloc (.cells (m.cells p) 45)).alloc (.cells z33 45)) 45 z33
    simpa using this)
  have HB : Hid (Below w.heap.size w (((w.alloc (.cells (m.cells p) 45)).alloc (.cells z33 45)).alloc (.cells z33 45))) := hid ((((Below.refl _ _).alloc (Nat.le_refl _) _).alloc (by simp) _).alloc (by simp; omega) _)
  have a0 : ((w.alloc (.cells (m.cells p) 45)).alloc (.cells z33 45)).cell? ⟨w.heap.size, 0, none⟩ = some (.int .i64 16) := by
    rw [R1.out.cell 0]
    show some (Value.int .i64 m.kind) = _
    rw [hk]
  have a1 : ((w.alloc (.cells (m.cells p) 45)).alloc (.cells z33 45)).cell? ⟨w.heap.size, 1, none⟩ = some (.int .i64 m.frm) := R1.out.cell 1
  have HK := hid hk
  have HX0 : Hid (((z33.setIfInBounds 0 (.int .i64 16)).setIfInBounds 1 (.int .i64 m.frm)).all (·.oneCell') = true) := hid (by
    rw [show (z33.setIfInBounds 0 (.int .i64 16)).setIfInBounds 1 (.int .i64 m.frm) = (x33 16 m.frm).toArray from rfl]
    simp [x33, Value.oneCell'])
  clear hk
  go_enter Tryz.func40, Tryz.ntmps40
  go_wp2_with (first
    | ((with_reducible show wpList _ _ _ ({ dst := none, op := .store _ (.tmp 4) _, type := _, pos := _, after := _, guard := _ } :: _) _ _); refine wpl_store_st rfl (.tmp 4) (.tmp 10) rfl HZS.out (w.heap.size + 1 + 1) z33 ((z33.setIfInBounds 0 (.int .i64 16)).setIfInBounds 1 (.int .i64 m.frm)) rfl rfl R3.out ?_ (hid rfl) (hid (by simp [z33])) HX0; intro w3 hr3 hg3; have R := hid ((R1.out.alloc (.cells z33 45)).grown hg3 (by simp; omega)); have S := hid ((R2.out.alloc (.cells z33 45)).grown hg3 (by simp)); have X : Hid (Row w3 (w.heap.size + 1 + 1) 45 (x33 16 m.frm)) := hid hr3; replace HB := hid (HB.out.trans (below_grown hg3 (by omega) HB.out.size)); have c2 : w3.cell? ⟨w.heap.size, 2, none⟩ = some (.int .i64 m.view) := R.out.cell 2; clear hr3 hg3 R1 R2 R3 a0 a1)
    | ((with_reducible show wpList _ _ _ ({ dst := none, op := .store _ (.tmp 47) _, type := _, pos := _, after := _, guard := _ } :: _) _ _); refine wpl_st1 rfl 3 (.tmp 47) (.tmp 46) rfl (w.heap.size + 1 + 1) 2 (.int .i64 m.view) rfl rfl X sizeInt ?_ (hid (by simp [x33])) (hid rfl); clear c2; intro w4 X hg; replace R := hid (R.out.grown hg (by simp; omega)); replace S := hid (S.out.grown hg (by simp)); replace HB := hid (HB.out.trans (below_grown hg (by omega) HB.out.size)); have c4 : w4.cell? ⟨w.heap.size, 4, none⟩ = some (.int .i64 m.opn) := R.out.cell 4; clear hg)
    | ((with_reducible show wpList _ _ _ ({ dst := none, op := .store _ (.tmp 72) _, type := _, pos := _, after := _, guard := _ } :: _) _ _); refine wpl_st1 rfl 3 (.tmp 72) (.tmp 71) rfl (w.heap.size + 1 + 1) 4 (.int .i64 m.opn) rfl rfl X sizeInt ?_ (hid (by simp [x33])) (hid rfl); clear c4; intro w5 X hg; replace R := hid (R.out.grown hg (by simp; omega)); replace S := hid (S.out.grown hg (by simp)); replace HB := hid (HB.out.trans (below_grown hg (by omega) HB.out.size)); have c6 : w5.cell? ⟨w.heap.size, 6, none⟩ = some (.int .i64 m.client) := R.out.cell 6; clear hg)
    | ((with_reducible show wpList _ _ _ ({ dst := none, op := .store _ (.tmp 102) _, type := _, pos := _, after := _, guard := _ } :: _) _ _); refine wpl_st1 rfl 3 (.tmp 102) (.tmp 101) rfl (w.heap.size + 1 + 1) 6 (.int .i64 m.client) rfl rfl X sizeInt ?_ (hid (by simp [x33])) (hid rfl); clear c6; intro w6 X hg; replace R := hid (R.out.grown hg (by simp; omega)); replace S := hid (S.out.grown hg (by simp)); replace HB := hid (HB.out.trans (below_grown hg (by omega) HB.out.size)); have c7 : w6.cell? ⟨w.heap.size, 7, none⟩ = some (.int .i64 m.session) := R.out.cell 7; clear hg)
    | ((with_reducible show wpList _ _ _ ({ dst := none, op := .store _ (.tmp 105) _, type := _, pos := _, after := _, guard := _ } :: _) _ _); refine wpl_st1 rfl 3 (.tmp 105) (.tmp 104) rfl (w.heap.size + 1 + 1) 7 (.int .i64 m.session) rfl rfl X sizeInt ?_ (hid (by simp [x33])) (hid rfl); clear c7; intro w7 X hg; replace R := hid (R.out.grown hg (by simp; omega)); replace S := hid (S.out.grown hg (by simp)); replace HB := hid (HB.out.trans (below_grown hg (by omega) HB.out.size)); have c8 : w7.cell? ⟨w.heap.size, 8, none⟩ = some (.int .i64 m.request) := R.out.cell 8; clear hg)
    | ((with_reducible show wpList _ _ _ ({ dst := none, op := .store _ (.tmp 108) _, type := _, pos := _, after := _, guard := _ } :: _) _ _); refine wpl_st1 rfl 3 (.tmp 108) (.tmp 107) rfl (w.heap.size + 1 + 1) 8 (.int .i64 m.request) rfl rfl X sizeInt ?_ (hid (by simp [x33])) (hid rfl); clear c8; intro w8 X hg; replace R := hid (R.out.grown hg (by simp; omega)); replace S := hid (S.out.grown hg (by simp)); replace HB := hid (HB.out.trans (below_grown hg (by omega) HB.out.size)); clear hg)
    | ((with_reducible show wpList _ _ _ ({ dst := some 179, op := _, type := _, pos := _, after := _, guard := _ } :: _) _ _); refine wpList_load_row rfl 45 (.tmp 4) rfl (w.heap.size + 1 + 1) rfl 45 ((keptM m).cells (keptP m p)) (0, 0) _ (Row.arr (by
        have h := X.out
        have e : (List.set (List.set (List.set (List.set (List.set (x33 16 m.frm) 2 (.int .i64 m.view)) 4 (.int .i64 m.opn)) 6 (.int .i64 m.client)) 7 (.int .i64 m.session)) 8 (.int .i64 m.request)) = ((keptM m).cells (keptP m p)).toList := by
          simp only [keptM, keptP, HK.out]
          rfl
        rw [e] at h
        exact h)) Tryz.underlying45 rfl HZS.out ?_)
    | ((with_reducible show wpList _ _ _ ({ dst := none, op := .store _ (.tmp 2) _, type := _, pos := _, after := _, guard := _ } :: _) _ _); refine wpl_store_st rfl (.tmp 2) (.tmp 179) rfl HZS.out (w.heap.size + 1) z33 ((keptM m).cells (keptP m p)) rfl rfl S.out ?_ (hid rfl) (hid rfl) (hid (by simp [Ms.cells, Value.oneCell'])); intro wz hrz hgz; replace HB := hid (HB.out.trans (below_grown hgz (by omega) HB.out.size))))
  refine bodyPost_ret (v := .agg ((keptM m).cells (keptP m p))) (results_cell_row rfl _ _ (w.heap.size + 1) 45 _ (0, 0) _ rfl (Row.arr hrz) Tryz.underlying45 rfl HZS.out) rfl ⟨rfl, HB.out⟩
end Go.Proofs.YteahbalcielhpaaGreatDoor
