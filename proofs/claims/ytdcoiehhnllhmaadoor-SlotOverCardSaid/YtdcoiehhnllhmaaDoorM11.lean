/-
  What the tied table gives the walks; the laws' arguments as they read.
-/
import Derived.Test.YtdcoiehhnllhmaaDoorM02
import Derived.Test.YtdcoiehhnllhmaaDoorM05
import Derived.Test.YtdcoiehhnllhmaaDoorTie
import Derived.Test.YtdcoiehhnllhmaaDoorCards
import Derived.LaidMore
import Derived.OpenShut
import Derived.Stop.Joined
import Derived.ChangeSlices
import Derived.Deep.Slices
namespace Go.Proofs.YtdcoiehhnllhmaaDoor
open Go.ChangeShapes Go.WideShapes Go.ChangeAt Go.WideMaps Go.WideElems Go.RowKit
set_option maxRecDepth 100000

theorem gFields : Tryd.prog.globalNamed "comptor/head.fields" = some 0 := by kernel_rfl
theorem tFields : (Tryd.prog.globals[0]?).map (·.type) = some 132 := by kernel_rfl
theorem cellsFields : Tryd.prog.cellsOf 132 = 30 := by kernel_rfl
theorem cellsField : Tryd.prog.cellsOf 131 = 2 := by kernel_rfl
theorem cellsInt : Tryd.prog.cellsOf 3 = 1 := by kernel_rfl
theorem cellsU64 : Tryd.prog.cellsOf 22 = 1 := by kernel_rfl
theorem field_cells {W : World} {fuel : Nat} {c : List Value} {a b : Int} {p : List MemPlace} (h : DataW.trod (fun _ => ()) Tryd.prog W 0 (fun _ => true) false fuel 131 c = some (.agg [.lit (.int .i64 a), .lit (.int .u64 b)], p)) : c = [.int .i64 a, .int .u64 b] := by
  obtain ⟨xs, n, _, hx, hlen, hxs, hf⟩ := DataW.trod_struct Tryd.underlying131 h
  rw [cellsField] at hlen
  match c, hlen with
  | [v0, v1], _ =>
    have hxs2 : xs.length = 2 := hxs
    match xs, hxs2 with
    | [y0, y1], _ =>
      have h0 := hf 0 _ rfl
      have h1 := hf 1 _ rfl
      have t0 : DataW.trod (fun _ => ()) Tryd.prog W 0 (fun _ => true) false n 3 [v0] = some y0 := by rw [← show _ = some y0 from h0]; show _ = DataW.trod _ _ _ _ _ _ _ _ (List.take (Tryd.prog.cellsOf 3) _); rw [cellsInt]; rfl
      have t1 : DataW.trod (fun _ => ()) Tryd.prog W 0 (fun _ => true) false n 22 [v1] = some y1 := by rw [← show _ = some y1 from h1]; show _ = DataW.trod _ _ _ _ _ _ _ _ (List.take (Tryd.prog.cellsOf 22) _); rw [cellsU64]; rfl
      obtain ⟨z0, q0, e0, _⟩ := DataW.trod_int Tryd.underlying3 t0
      obtain ⟨z1, q1, e1, _⟩ := DataW.trod_int Tryd.underlying22 t1
      cases q0; cases q1
      simp only [Prod.mk.injEq, DataW.agg.injEq, List.map_cons, List.map_nil, List.cons.injEq, and_true] at hx
      rw [e0, e1] at hx
      simp only [DataW.lit.injEq, Lit.int.injEq, true_and] at hx
      rw [hx.1.1, hx.1.2]
theorem fd_of_laid {W : World} (h : laidMetH Tryd.prog [("comptor/head.fields", Rows.laid_comptor_head_fields)] W) : Fd W := by
  rw [MakeChecks.laidMetH_plain _ _ _ (by kernel_rfl)] at h
  obtain ⟨ps, ⟨g0, t0, cs0, f0, p0, q0, hg0, ht0, hv0, hd0, _, _⟩, _, _⟩ := h
  obtain rfl := Option.some.inj (gFields.symm.trans hg0)
  obtain rfl := Option.some.inj (tFields.symm.trans ht0)
  obtain ⟨xs, m1, h1, hx1, hlen, hn3, hel⟩ := DataW.trod_array Tryd.underlying132 hd0
  rw [cellsFields] at hlen
  have hlen2 : cs0.size = 30 := by simpa using hlen
  have hdat : (Rows.laid_comptor_head_fields (H := Unit)) = .agg ((List.range 15).map fun i => .agg [.lit (.int .i64 (sz i : Nat)), .lit (.int .u64 (mo i : Nat))]) := rfl
  rw [hdat] at hx1
  simp only [Prod.mk.injEq, DataW.agg.injEq] at hx1
  have hcell : ∀ i, i < 15 → (cs0.toList.drop (i * 2)).take 2 = [.int .i64 (sz i : Nat), .int .u64 (mo i : Nat)] := by
    intro i hi
    have he := hel i hi
    rw [cellsField] at he
    obtain ⟨y, hy⟩ : ∃ y, xs[i]? = some y := ⟨_, List.getElem?_eq_getElem (by omega)⟩
    have h2 := congrArg (fun l : List (DataW Unit) => l[i]?) hx1.1
    simp only [List.getElem?_map, hy, Option.map_some, List.getElem?_range hi] at h2
    obtain ⟨y1, y2⟩ := y
    have h3 := (Option.some.inj h2)
    simp only at h3
    rw [hy, ← h3] at he
    exact field_cells he
  have hall : cs0.toList = fcells := by
    apply List.ext_getElem?
    intro j
    by_cases hj : j < 30
    · obtain ⟨m, hm⟩ : ∃ m, j = m * 2 ∨ j = m * 2 + 1 := ⟨j / 2, by omega⟩
      rcases hm with rfl | rfl
      · have h2 := congrArg (fun l : List Value => l[0]?) (hcell m (by omega))
        simp only [List.getElem?_take, List.getElem?_drop, Nat.add_zero] at h2
        rw [if_pos (by omega)] at h2
        rw [h2, fcell_sz m (by omega)]
        rfl
      · have h2 := congrArg (fun l : List Value => l[1]?) (hcell m (by omega))
        simp only [List.getElem?_take, List.getElem?_drop] at h2
        rw [if_pos (by omega)] at h2
        rw [h2, fcell_mo m (by omega)]
        rfl
    · rw [List.getElem?_eq_none (by simp [hlen2]; omega), List.getElem?_eq_none (by show 30 ≤ j; omega)]
  have hcells : ∀ j u, fcells[j]? = some u → W.cell? ⟨0, j, none⟩ = some u := by
    intro j u hu
    have h1 := World.var?_cell gFields hv0 j
    rw [← hall] at hu
    rw [h1]
    simpa using hu
  have h0 := World.block_lt_of_cell? W _ (hcells 0 _ rfl)
  exact ⟨h0, fun _ => ⟨0, 0, rfl, by omega, fun j u hu => by rw [Nat.zero_add]; exact hcells j u hu⟩⟩
section
variable {H : Type} {enc : TypeId × Value → H} {W : World}
theorem cellsHead : Tryd.prog.cellsOf 93 = 12 := by kernel_rfl
theorem int_of_wf {n : Int} (h : (Lit.int .i64 n).wf = true) : In64 n := i64_bounds h
/-- an argument Head -/
theorem open_head {v : Value} {d : DataW H} {ps : List MemPlace} {b0 : Nat} {r : Reach} (hval : Value.okWide Tryd.prog W r b0 93 v) (h : DataW.Trod enc Tryd.prog W 0 (fun _ => true) true 93 v d ps) :
    ∃ X : Hd, v = X.val ∧ X.fits := by
  obtain ⟨cs, rfl, hsz⟩ := okWide_struct Tryd.underlying93 hval
  obtain ⟨fuel, hf0⟩ := h
  obtain ⟨xs, n, _, _, hlen, hxs, hf⟩ := DataW.trod_struct Tryd.underlying93 hf0
  rw [cellsHead] at hlen
  obtain ⟨l, rfl⟩ : ∃ l : List Value, cs = l.toArray := ⟨cs.toList, by simp⟩
  simp only [Value.cells] at hlen hf
  match l, hlen with
  | [v0, v1, v2, v3, v4, v5, v6, v7, v8, v9, v10, v11], _ =>
    have hx : ∀ i, i < 12 → ∃ y, xs[i]? = some y := fun i hi => ⟨_, List.getElem?_eq_getElem (by rw [hxs]; exact hi)⟩
    obtain ⟨y0, e0⟩ := hx 0 (by omega)
    obtain ⟨y1, e1⟩ := hx 1 (by omega)
    obtain ⟨y2, e2⟩ := hx 2 (by omega)
    obtain ⟨y3, e3⟩ := hx 3 (by omega)
    obtain ⟨y4, e4⟩ := hx 4 (by omega)
    obtain ⟨y5, e5⟩ := hx 5 (by omega)
    obtain ⟨y6, e6⟩ := hx 6 (by omega)
    obtain ⟨y7, e7⟩ := hx 7 (by omega)
    obtain ⟨y8, e8⟩ := hx 8 (by omega)
    obtain ⟨y9, e9⟩ := hx 9 (by omega)
    obtain ⟨y10, e10⟩ := hx 10 (by omega)
    obtain ⟨y11, e11⟩ := hx 11 (by omega)
    have h0 := (hf 0 _ rfl).trans e0
    have t0 : DataW.trod enc Tryd.prog W 0 (fun _ => true) true n 3 [v0] = some y0 := by rw [← h0]; show _ = DataW.trod _ _ _ _ _ _ _ _ (List.take (Tryd.prog.cellsOf 3) _); rw [cellsInt]; rfl
    have h1 := (hf 1 _ rfl).trans e1
    have t1 : DataW.trod enc Tryd.prog W 0 (fun _ => true) true n 3 [v1] = some y1 := by rw [← h1]; show _ = DataW.trod _ _ _ _ _ _ _ _ (List.take (Tryd.prog.cellsOf 3) _); rw [cellsInt]; rfl
    have h2 := (hf 2 _ rfl).trans e2
    have t2 : DataW.trod enc Tryd.prog W 0 (fun _ => true) true n 3 [v2] = some y2 := by rw [← h2]; show _ = DataW.trod _ _ _ _ _ _ _ _ (List.take (Tryd.prog.cellsOf 3) _); rw [cellsInt]; rfl
    have h3 := (hf 3 _ rfl).trans e3
    have t3 : DataW.trod enc Tryd.prog W 0 (fun _ => true) true n 3 [v3] = some y3 := by rw [← h3]; show _ = DataW.trod _ _ _ _ _ _ _ _ (List.take (Tryd.prog.cellsOf 3) _); rw [cellsInt]; rfl
    have h4 := (hf 4 _ rfl).trans e4
    have t4 : DataW.trod enc Tryd.prog W 0 (fun _ => true) true n 3 [v4] = some y4 := by rw [← h4]; show _ = DataW.trod _ _ _ _ _ _ _ _ (List.take (Tryd.prog.cellsOf 3) _); rw [cellsInt]; rfl
    have h5 := (hf 5 _ rfl).trans e5
    have t5 : DataW.trod enc Tryd.prog W 0 (fun _ => true) true n 3 [v5] = some y5 := by rw [← h5]; show _ = DataW.trod _ _ _ _ _ _ _ _ (List.take (Tryd.prog.cellsOf 3) _); rw [cellsInt]; rfl
    have h6 := (hf 6 _ rfl).trans e6
    have t6 : DataW.trod enc Tryd.prog W 0 (fun _ => true) true n 3 [v6] = some y6 := by rw [← h6]; show _ = DataW.trod _ _ _ _ _ _ _ _ (List.take (Tryd.prog.cellsOf 3) _); rw [cellsInt]; rfl
    have h7 := (hf 7 _ rfl).trans e7
    have t7 : DataW.trod enc Tryd.prog W 0 (fun _ => true) true n 3 [v7] = some y7 := by rw [← h7]; show _ = DataW.trod _ _ _ _ _ _ _ _ (List.take (Tryd.prog.cellsOf 3) _); rw [cellsInt]; rfl
    have h8 := (hf 8 _ rfl).trans e8
    have t8 : DataW.trod enc Tryd.prog W 0 (fun _ => true) true n 3 [v8] = some y8 := by rw [← h8]; show _ = DataW.trod _ _ _ _ _ _ _ _ (List.take (Tryd.prog.cellsOf 3) _); rw [cellsInt]; rfl
    have h9 := (hf 9 _ rfl).trans e9
    have t9 : DataW.trod enc Tryd.prog W 0 (fun _ => true) true n 3 [v9] = some y9 := by rw [← h9]; show _ = DataW.trod _ _ _ _ _ _ _ _ (List.take (Tryd.prog.cellsOf 3) _); rw [cellsInt]; rfl
    have h10 := (hf 10 _ rfl).trans e10
    have t10 : DataW.trod enc Tryd.prog W 0 (fun _ => true) true n 3 [v10] = some y10 := by rw [← h10]; show _ = DataW.trod _ _ _ _ _ _ _ _ (List.take (Tryd.prog.cellsOf 3) _); rw [cellsInt]; rfl
    have h11 := (hf 11 _ rfl).trans e11
    have t11 : DataW.trod enc Tryd.prog W 0 (fun _ => true) true n 22 [v11] = some y11 := by rw [← h11]; show _ = DataW.trod _ _ _ _ _ _ _ _ (List.take (Tryd.prog.cellsOf 22) _); rw [cellsU64]; rfl
    obtain ⟨z0, q0, _, w0⟩ := DataW.trod_int Tryd.underlying3 t0
    obtain ⟨z1, q1, _, w1⟩ := DataW.trod_int Tryd.underlying3 t1
    obtain ⟨z2, q2, _, w2⟩ := DataW.trod_int Tryd.underlying3 t2
    obtain ⟨z3, q3, _, w3⟩ := DataW.trod_int Tryd.underlying3 t3
    obtain ⟨z4, q4, _, w4⟩ := DataW.trod_int Tryd.underlying3 t4
    obtain ⟨z5, q5, _, w5⟩ := DataW.trod_int Tryd.underlying3 t5
    obtain ⟨z6, q6, _, w6⟩ := DataW.trod_int Tryd.underlying3 t6
    obtain ⟨z7, q7, _, w7⟩ := DataW.trod_int Tryd.underlying3 t7
    obtain ⟨z8, q8, _, w8⟩ := DataW.trod_int Tryd.underlying3 t8
    obtain ⟨z9, q9, _, w9⟩ := DataW.trod_int Tryd.underlying3 t9
    obtain ⟨z10, q10, _, w10⟩ := DataW.trod_int Tryd.underlying3 t10
    obtain ⟨z11, q11, _, w11⟩ := DataW.trod_int Tryd.underlying22 t11
    obtain ⟨m, rfl, hm⟩ := u64_bounds w11
    cases q0; cases q1; cases q2; cases q3; cases q4; cases q5; cases q6; cases q7; cases q8; cases q9; cases q10; cases q11
    exact ⟨⟨z0, z1, z2, z3, z4, z5, z6, z7, z8, z9, z10, m⟩, rfl, ⟨int_of_wf w0, int_of_wf w1, int_of_wf w2, int_of_wf w3, int_of_wf w4, int_of_wf w5⟩, ⟨int_of_wf w6, int_of_wf w7, int_of_wf w8, int_of_wf w9, int_of_wf w10⟩, hm⟩
end
end Go.Proofs.YtdcoiehhnllhmaaDoor
