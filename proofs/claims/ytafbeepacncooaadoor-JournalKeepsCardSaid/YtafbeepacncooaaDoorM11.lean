/-
  The laws' arguments: an entry, a mark, as they read.
-/
import Derived.Test.YtafbeepacncooaaDoorM02
import Derived.Test.YtafbeepacncooaaDoorM07
import Derived.ChangeSlices
import Derived.Deep.Slices
namespace Go.Proofs.YtafbeepacncooaaDoor
open Go.ChangeShapes Go.WideShapes Go.ChangeAt Go.RowKit
set_option maxRecDepth 10000

section
variable {H : Type} {enc : TypeId × Value → H} {W : World}
theorem cellsIntE : Tryd.prog.cellsOf 3 = 1 := by kernel_rfl
theorem cellsU64E : Tryd.prog.cellsOf 26 = 1 := by kernel_rfl
theorem cellsStrE : Tryd.prog.cellsOf 9 = 1 := by kernel_rfl
theorem int_of_wfE {n : Int} (h : (Lit.int .i64 n).wf = true) : In64 n := i64_bounds h
theorem cellsEn : Tryd.prog.cellsOf 28 = 9 := by kernel_rfl
/-- an argument Entry -/
theorem open_entry {v : Value} {d : DataW H} {ps : List MemPlace} {b0 : Nat} {r : Reach} (hval : Value.okWide Tryd.prog W r b0 28 v) (h : DataW.Trod enc Tryd.prog W 0 (fun _ => true) true 28 v d ps) :
    ∃ X : En, v = X.val ∧ X.fits := by
  obtain ⟨cs, rfl, hsz⟩ := okWide_struct Tryd.underlying28 hval
  obtain ⟨fuel, hf0⟩ := h
  obtain ⟨xs, n, _, _, hlen, hxs, hf⟩ := DataW.trod_struct Tryd.underlying28 hf0
  rw [cellsEn] at hlen
  obtain ⟨l, rfl⟩ : ∃ l : List Value, cs = l.toArray := ⟨cs.toList, by simp⟩
  simp only [Value.cells] at hlen hf
  match l, hlen with
  | [v0, v1, v2, v3, v4, v5, v6, v7, v8], _ =>
    have hx : ∀ i, i < 9 → ∃ y, xs[i]? = some y := fun i hi => ⟨_, List.getElem?_eq_getElem (by rw [hxs]; exact hi)⟩
    obtain ⟨y0, e0⟩ := hx 0 (by omega)
    have h0 := (hf 0 _ rfl).trans e0
    have t0 : DataW.trod enc Tryd.prog W 0 (fun _ => true) true n 3 [v0] = some y0 := by rw [← h0]; show _ = DataW.trod _ _ _ _ _ _ _ _ (List.take (Tryd.prog.cellsOf 3) _); rw [cellsIntE]; rfl
    obtain ⟨z0, q0, _, w0⟩ := DataW.trod_int Tryd.underlying3 t0
    obtain ⟨y1, e1⟩ := hx 1 (by omega)
    have h1 := (hf 1 _ rfl).trans e1
    have t1 : DataW.trod enc Tryd.prog W 0 (fun _ => true) true n 3 [v1] = some y1 := by rw [← h1]; show _ = DataW.trod _ _ _ _ _ _ _ _ (List.take (Tryd.prog.cellsOf 3) _); rw [cellsIntE]; rfl
    obtain ⟨z1, q1, _, w1⟩ := DataW.trod_int Tryd.underlying3 t1
    obtain ⟨y2, e2⟩ := hx 2 (by omega)
    have h2 := (hf 2 _ rfl).trans e2
    have t2 : DataW.trod enc Tryd.prog W 0 (fun _ => true) true n 3 [v2] = some y2 := by rw [← h2]; show _ = DataW.trod _ _ _ _ _ _ _ _ (List.take (Tryd.prog.cellsOf 3) _); rw [cellsIntE]; rfl
    obtain ⟨z2, q2, _, w2⟩ := DataW.trod_int Tryd.underlying3 t2
    obtain ⟨y3, e3⟩ := hx 3 (by omega)
    have h3 := (hf 3 _ rfl).trans e3
    have t3 : DataW.trod enc Tryd.prog W 0 (fun _ => true) true n 26 [v3] = some y3 := by rw [← h3]; show _ = DataW.trod _ _ _ _ _ _ _ _ (List.take (Tryd.prog.cellsOf 26) _); rw [cellsU64E]; rfl
    obtain ⟨z3, q3, _, w3⟩ := DataW.trod_int Tryd.underlying26 t3
    obtain ⟨m, rfl, hm⟩ := u64_bounds w3
    obtain ⟨y4, e4⟩ := hx 4 (by omega)
    have h4 := (hf 4 _ rfl).trans e4
    have t4 : DataW.trod enc Tryd.prog W 0 (fun _ => true) true n 3 [v4] = some y4 := by rw [← h4]; show _ = DataW.trod _ _ _ _ _ _ _ _ (List.take (Tryd.prog.cellsOf 3) _); rw [cellsIntE]; rfl
    obtain ⟨z4, q4, _, w4⟩ := DataW.trod_int Tryd.underlying3 t4
    obtain ⟨y5, e5⟩ := hx 5 (by omega)
    have h5 := (hf 5 _ rfl).trans e5
    have t5 : DataW.trod enc Tryd.prog W 0 (fun _ => true) true n 3 [v5] = some y5 := by rw [← h5]; show _ = DataW.trod _ _ _ _ _ _ _ _ (List.take (Tryd.prog.cellsOf 3) _); rw [cellsIntE]; rfl
    obtain ⟨z5, q5, _, w5⟩ := DataW.trod_int Tryd.underlying3 t5
    obtain ⟨y6, e6⟩ := hx 6 (by omega)
    have h6 := (hf 6 _ rfl).trans e6
    have t6 : DataW.trod enc Tryd.prog W 0 (fun _ => true) true n 3 [v6] = some y6 := by rw [← h6]; show _ = DataW.trod _ _ _ _ _ _ _ _ (List.take (Tryd.prog.cellsOf 3) _); rw [cellsIntE]; rfl
    obtain ⟨z6, q6, _, w6⟩ := DataW.trod_int Tryd.underlying3 t6
    obtain ⟨y7, e7⟩ := hx 7 (by omega)
    have h7 := (hf 7 _ rfl).trans e7
    have t7 : DataW.trod enc Tryd.prog W 0 (fun _ => true) true n 3 [v7] = some y7 := by rw [← h7]; show _ = DataW.trod _ _ _ _ _ _ _ _ (List.take (Tryd.prog.cellsOf 3) _); rw [cellsIntE]; rfl
    obtain ⟨z7, q7, _, w7⟩ := DataW.trod_int Tryd.underlying3 t7
    obtain ⟨y8, e8⟩ := hx 8 (by omega)
    have h8 := (hf 8 _ rfl).trans e8
    have t8 : DataW.trod enc Tryd.prog W 0 (fun _ => true) true n 9 [v8] = some y8 := by rw [← h8]; show _ = DataW.trod _ _ _ _ _ _ _ _ (List.take (Tryd.prog.cellsOf 9) _); rw [cellsStrE]; rfl
    obtain ⟨z8, q8, _, w8⟩ := DataW.trod_string Tryd.underlying9 t8
    cases q0; cases q1; cases q2; cases q3; cases q4; cases q5; cases q6; cases q7; cases q8
    exact ⟨⟨z0, z1, z2, m, z4, z5, z6, z7, z8⟩, rfl, ⟨int_of_wfE w0, int_of_wfE w1, int_of_wfE w2, int_of_wfE w4⟩, ⟨int_of_wfE w5, int_of_wfE w6, int_of_wfE w7⟩, hm⟩
end
end Go.Proofs.YtafbeepacncooaaDoor
