/-
  What the tied table gives the walks; the laws' arguments as they read.
-/
import Derived.Test.YteahbalcielhpaaGreatDoorZ02
import Derived.Test.YteahbalcielhpaaGreatDoorZ05
import Derived.Test.YteahbalcielhpaaGreatDoorTie
import Derived.Test.YteahbalcielhpaaGreatDoorCards
import Derived.LaidMore
import Derived.OpenShut
import Derived.Stop.Joined
import Derived.ChangeSlices
import Derived.Deep.Slices
namespace Go.Proofs.YteahbalcielhpaaGreatDoor
open Go.ChangeShapes Go.WideShapes Go.ChangeAt Go.WideMaps Go.WideElems Go.RowKit
set_option maxRecDepth 100000

theorem gFields : Tryz.prog.globalNamed "comptor/head.fields" = some 1 := by kernel_rfl
theorem tFields : (Tryz.prog.globals[1]?).map (·.type) = some 111 := by kernel_rfl
theorem cellsFields : Tryz.prog.cellsOf 111 = 30 := by kernel_rfl
theorem cellsField : Tryz.prog.cellsOf 110 = 2 := by kernel_rfl
theorem cellsInt : Tryz.prog.cellsOf 3 = 1 := by kernel_rfl
theorem cellsU64 : Tryz.prog.cellsOf 25 = 1 := by kernel_rfl
theorem field_cells {W : World} {fuel : Nat} {c : List Value} {a b : Int} {p : List MemPlace} (h : DataW.trod (fun _ => ()) Tryz.prog W 0 (fun _ => true) false fuel 110 c = some (.agg [.lit (.int .i64 a), .lit (.int .u64 b)], p)) : c = [.int .i64 a, .int .u64 b] := by
  obtain ⟨xs, n, _, hx, hlen, hxs, hf⟩ := DataW.trod_struct Tryz.underlying110 h
  rw [cellsField] at hlen
  match c, hlen with
  | [v0, v1], _ =>
    have hxs2 : xs.length = 2 := hxs
    match xs, hxs2 with
    | [y0, y1], _ =>
      have h0 := hf 0 _ rfl
      have h1 := hf 1 _ rfl
      have t0 : DataW.trod (fun _ => ()) Tryz.prog W 0 (fun _ => true) false n 3 [v0] = some y0 := by rw [← show _ = some y0 from h0]; show _ = DataW.trod _ _ _ _ _ _ _ _ (List.take (Tryz.prog.cellsOf 3) _); rw [cellsInt]; rfl
      have t1 : DataW.trod (fun _ => ()) Tryz.prog W 0 (fun _ => true) false n 25 [v1] = some y1 := by rw [← show _ = some y1 from h1]; show _ = DataW.trod _ _ _ _ _ _ _ _ (List.take (Tryz.prog.cellsOf 25) _); rw [cellsU64]; rfl
      obtain ⟨z0, q0, e0, _⟩ := DataW.trod_int Tryz.underlying3 t0
      obtain ⟨z1, q1, e1, _⟩ := DataW.trod_int Tryz.underlying25 t1
      cases q0; cases q1
      simp only [Prod.mk.injEq, DataW.agg.injEq, List.map_cons, List.map_nil, List.cons.injEq, and_true] at hx
      rw [e0, e1] at hx
      simp only [DataW.lit.injEq, Lit.int.injEq, true_and] at hx
      rw [hx.1.1, hx.1.2]
theorem fd_of_laid {W : World} (h : laidMetH Tryz.prog [("comptor/head.fields", Rows.laid_comptor_head_fields), ("comptor/msg.fields", Rows.laid_comptor_msg_fields)] W) : Fd W := by
  rw [MakeChecks.laidMetH_plain _ _ _ (by kernel_rfl)] at h
  obtain ⟨ps, ⟨g0, t0, cs0, f0, p0, q0, hg0, ht0, hv0, hd0, _, _⟩, _, _⟩ := h
  obtain rfl := Option.some.inj (gFields.symm.trans hg0)
  obtain rfl := Option.some.inj (tFields.symm.trans ht0)
  obtain ⟨xs, m1, h1, hx1, hlen, hn3, hel⟩ := DataW.trod_array Tryz.underlying111 hd0
  rw [cellsFields] at hlen
  have hlen2 : cs0.size = 30 := by simpa using hlen
  have hdat : (Rows.laid_comptor_head_fields (H := Unit)) = .agg ((List.range 15).map fun i => .agg [.lit (.int .i64 (sz i : Nat)), .lit (.int .u64 (mo i : Nat))]) := rfl
  rw [hdat] at hx1
  simp only [Prod.mk.injEq, DataW.agg.injEq] at hx1
  have hcell : ∀ i, i < 15 → (cs0.toList.drop (i * 2)).take 2 = [.int .i64 (sz i : Nat), .int .u64 (mo i : Nat)] := by
    intro i hi
    have he := hel i hi
    rw [cellsField] at he
    obtain ⟨y, hy⟩ : ∃ y, xs[i]? = some y := ⟨_, List.getElem?_eq_getElem (by omega)⟩
    have h2 := congrArg (fun l : List (DataW Unit) => l[i]?) hx1.1
    simp only [List.getElem?_map, hy, Option.map_some, List.getElem?_range hi] at h2
    obtain ⟨y1, y2⟩ := y
    have h3 := (Option.some.inj h2)
    simp only at h3
    rw [hy, ← h3] at he
    exact field_cells he
  have hall : cs0.toList = fcells := by
    apply List.ext_getElem?
    intro j
    by_cases hj : j < 30
    · obtain ⟨m, hm⟩ : ∃ m, j = m * 2 ∨ j = m * 2 + 1 := ⟨j / 2, by omega⟩
      rcases hm with rfl | rfl
      · have h2 := congrArg (fun l : List Value => l[0]?) (hcell m (by omega))
        simp only [List.getElem?_take, List.getElem?_drop, Nat.add_zero] at h2
        rw [if_pos (by omega)] at h2
        rw [h2, fcell_sz m (by omega)]
        rfl
      · have h2 := congrArg (fun l : List Value => l[1]?) (hcell m (by omega))
        simp only [List.getElem?_take, List.getElem?_drop] at h2
        rw [if_pos (by omega)] at h2
        rw [h2, fcell_mo m (by omega)]
        rfl
    · rw [List.getElem?_eq_none (by simp [hlen2]; omega), List.getElem?_eq_none (by show 30 ≤ j; omega)]
  have hcells : ∀ j u, fcells[j]? = some u → W.cell? ⟨1, j, none⟩ = some u := by
    intro j u hu
    have h1 := World.var?_cell gFields hv0 j
    rw [← hall] at hu
    rw [h1]
    simpa using hu
  have h0 := World.block_lt_of_cell? W _ (hcells 0 _ rfl)
  exact ⟨h0, fun _ => ⟨1, 0, rfl, by omega, fun j u hu => by rw [Nat.zero_add]; exact hcells j u hu⟩⟩
section
variable {H : Type} {enc : TypeId × Value → H} {W : World}
end
end Go.Proofs.YteahbalcielhpaaGreatDoor
