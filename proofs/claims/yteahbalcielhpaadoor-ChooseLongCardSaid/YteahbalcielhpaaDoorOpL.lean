/-
  Lists of entries as a law's arguments, with the bounds of their bodies.
-/
import Derived.Test.YteahbalcielhpaaDoorM30
namespace Go.Proofs.YteahbalcielhpaaDoor
open Go.ChangeShapes Go.WideShapes Go.ChangeAt Go.RowKit
set_option maxRecDepth 10000

section
variable {H : Type} {enc : TypeId × Value → H} {W : World}
theorem open_en_w {fuel : Nat} {cs : List Value} {x : DataW H × List MemPlace} (h : DataW.trod enc Tryd.prog W 0 (fun _ => true) true fuel 30 cs = some x) :
    ∃ X : En, cs = X.cells.toList ∧ X.fits ∧ X.body.size ∈ x.1.weights Tryd.prog 30 := by
  obtain ⟨xs, n, _, hx0, hlen, hxs, hf⟩ := DataW.trod_struct Tryd.underlying30 h
  rw [cellsEnE] at hlen
  match cs, hlen with
  | [v0, v1, v2, v3, v4, v5, v6, v7, v8], _ =>
    have hx : ∀ i, i < 9 → ∃ y, xs[i]? = some y := fun i hi => ⟨_, List.getElem?_eq_getElem (by rw [hxs]; exact hi)⟩
    obtain ⟨y0, e0⟩ := hx 0 (by omega)
    have h0 := (hf 0 _ rfl).trans e0
    have t0 : DataW.trod enc Tryd.prog W 0 (fun _ => true) true n 3 [v0] = some y0 := by rw [← h0]; show _ = DataW.trod _ _ _ _ _ _ _ _ (List.take (Tryd.prog.cellsOf 3) _); rw [cellsIntE]; rfl
    obtain ⟨z0, q0, _, w0⟩ := DataW.trod_int Tryd.underlying3 t0
    obtain ⟨y1, e1⟩ := hx 1 (by omega)
    have h1 := (hf 1 _ rfl).trans e1
    have t1 : DataW.trod enc Tryd.prog W 0 (fun _ => true) true n 3 [v1] = some y1 := by rw [← h1]; show _ = DataW.trod _ _ _ _ _ _ _ _ (List.take (Tryd.prog.cellsOf 3) _); rw [cellsIntE]; rfl
    obtain ⟨z1, q1, _, w1⟩ := DataW.trod_int Tryd.underlying3 t1
    obtain ⟨y2, e2⟩ := hx 2 (by omega)
    have h2 := (hf 2 _ rfl).trans e2
    have t2 : DataW.trod enc Tryd.prog W 0 (fun _ => true) true n 3 [v2] = some y2 := by rw [← h2]; show _ = DataW.trod _ _ _ _ _ _ _ _ (List.take (Tryd.prog.cellsOf 3) _); rw [cellsIntE]; rfl
    obtain ⟨z2, q2, _, w2⟩ := DataW.trod_int Tryd.underlying3 t2
    obtain ⟨y3, e3⟩ := hx 3 (by omega)
    have h3 := (hf 3 _ rfl).trans e3
    have t3 : DataW.trod enc Tryd.prog W 0 (fun _ => true) true n 25 [v3] = some y3 := by rw [← h3]; show _ = DataW.trod _ _ _ _ _ _ _ _ (List.take (Tryd.prog.cellsOf 25) _); rw [cellsU64E]; rfl
    obtain ⟨z3, q3, _, w3⟩ := DataW.trod_int Tryd.underlying25 t3
    obtain ⟨y4, e4⟩ := hx 4 (by omega)
    have h4 := (hf 4 _ rfl).trans e4
    have t4 : DataW.trod enc Tryd.prog W 0 (fun _ => true) true n 3 [v4] = some y4 := by rw [← h4]; show _ = DataW.trod _ _ _ _ _ _ _ _ (List.take (Tryd.prog.cellsOf 3) _); rw [cellsIntE]; rfl
    obtain ⟨z4, q4, _, w4⟩ := DataW.trod_int Tryd.underlying3 t4
    obtain ⟨y5, e5⟩ := hx 5 (by omega)
    have h5 := (hf 5 _ rfl).trans e5
    have t5 : DataW.trod enc Tryd.prog W 0 (fun _ => true) true n 3 [v5] = some y5 := by rw [← h5]; show _ = DataW.trod _ _ _ _ _ _ _ _ (List.take (Tryd.prog.cellsOf 3) _); rw [cellsIntE]; rfl
    obtain ⟨z5, q5, _, w5⟩ := DataW.trod_int Tryd.underlying3 t5
    obtain ⟨y6, e6⟩ := hx 6 (by omega)
    have h6 := (hf 6 _ rfl).trans e6
    have t6 : DataW.trod enc Tryd.prog W 0 (fun _ => true) true n 3 [v6] = some y6 := by rw [← h6]; show _ = DataW.trod _ _ _ _ _ _ _ _ (List.take (Tryd.prog.cellsOf 3) _); rw [cellsIntE]; rfl
    obtain ⟨z6, q6, _, w6⟩ := DataW.trod_int Tryd.underlying3 t6
    obtain ⟨y7, e7⟩ := hx 7 (by omega)
    have h7 := (hf 7 _ rfl).trans e7
    have t7 : DataW.trod enc Tryd.prog W 0 (fun _ => true) true n 3 [v7] = some y7 := by rw [← h7]; show _ = DataW.trod _ _ _ _ _ _ _ _ (List.take (Tryd.prog.cellsOf 3) _); rw [cellsIntE]; rfl
    obtain ⟨z7, q7, _, w7⟩ := DataW.trod_int Tryd.underlying3 t7
    obtain ⟨y8, e8⟩ := hx 8 (by omega)
    have h8 := (hf 8 _ rfl).trans e8
    have t8 : DataW.trod enc Tryd.prog W 0 (fun _ => true) true n 9 [v8] = some y8 := by rw [← h8]; show _ = DataW.trod _ _ _ _ _ _ _ _ (List.take (Tryd.prog.cellsOf 9) _); rw [cellsStrE]; rfl
    obtain ⟨z8, q8, r8, w8⟩ := DataW.trod_string Tryd.underlying9 t8
    obtain ⟨m, rfl, hm⟩ := u64_bounds w3
    cases q0; cases q1; cases q2; cases q3; cases q4; cases q5; cases q6; cases q7; cases q8
    have hw : z8.size ∈ x.1.weights Tryd.prog 30 := by
      rw [hx0]
      unfold DataW.weights
      simp only [Tryd.underlying30]
      exact DataW.weights_mem_each (j := 8) (t := 9) (d := .lit (.string z8.data.toList)) rfl (by rw [List.getElem?_map, e8, r8]; rfl) _ (by simp [DataW.weights])
    exact ⟨⟨z0, z1, z2, m, z4, z5, z6, z7, z8⟩, rfl, ⟨⟨int_of_wfE w0, int_of_wfE w1, int_of_wfE w2, int_of_wfE w4⟩, ⟨int_of_wfE w5, int_of_wfE w6, int_of_wfE w7⟩, hm⟩, hw⟩
theorem weights_allL {P : Program} {e : TypeId} {d : DataW H} {n : Nat} (hn : n ∈ d.weights P e) : ∀ l : List (DataW H), d ∈ l → n ∈ DataW.weightsAll P e l
  | [], h => by simp at h
  | c :: l, h => by
    unfold DataW.weightsAll
    rcases List.mem_cons.1 h with rfl | h
    · exact List.mem_append_left _ hn
    · exact List.mem_append_right _ (weights_allL hn l h)
/-- an argument []Entry -/
theorem open_entsL {v : Value} {d : DataW H} {ps : List MemPlace} {b0 : Nat} {r : Reach} (hval : Value.okWide Tryd.prog W r b0 31 v) (h : DataW.Trod enc Tryd.prog W 0 (fun _ => true) true 31 v d ps) (hwt : ∀ n ∈ d.weights Tryd.prog 31, n ≤ reachBytes) :
    ∃ (A : Option Addr) (n c : Nat) (XS : List En), v = .slice A n c ∧ n = XS.length ∧ n ≤ c ∧ n ≤ 9223372036854775807 ∧ Rd W W.heap.size A (rws (fun e : En => e.cells.toList) XS) ∧ ∀ X ∈ XS, X.fits ∧ X.body.size ≤ 140737488355328 := by
  obtain ⟨a0, len, cap, rfl⟩ := okWide_slice Tryd.underlying31 hval
  obtain ⟨fuel, hf⟩ := h
  rcases Go.Deep.open_slice Tryd.underlying31 hf with ⟨hcs, _⟩ | ⟨a, len', cap', m, n, D, Pl, hcs, _, hl, hm, hmm, hxx, hel⟩
  · simp [Value.cells] at hcs
    obtain ⟨rfl, rfl, rfl⟩ := hcs
    exact ⟨none, 0, 0, [], rfl, rfl, by omega, by omega, Rd.nil, by simp⟩
  · simp [Value.cells] at hcs
    obtain ⟨rfl, rfl, rfl⟩ := hcs
    simp only [if_true] at hmm
    subst hmm
    have hone : ∀ i, i < len → ∃ X : En, (X.fits ∧ X.body.size ≤ 140737488355328) ∧ ∀ j v, X.cells.toList[j]? = some v → W.cell? ((a.add (i * 9)).add j) = some v := by
      intro i hi
      obtain ⟨cs', h1, h2⟩ := hel i (by omega)
      rw [cellsEnE] at h1
      obtain ⟨X, rfl, h3, h4⟩ := open_en_w h2
      have h5 : X.body.size ∈ d.weights Tryd.prog 31 := by
        rw [show d = _ from congrArg Prod.fst hxx]
        unfold DataW.weights
        simp only [Tryd.underlying31]
        exact List.mem_cons_of_mem _ (List.mem_append_left _ (weights_allL h4 _ (List.mem_map.2 ⟨i, List.mem_range.2 hi, rfl⟩)))
      have h6 := hwt _ h5
      simp only [reachBytes] at h6
      exact ⟨X, ⟨h3, by omega⟩, (cellsM_get h1).2⟩
    have : Inhabited En := ⟨en0⟩
    obtain ⟨f, hfX⟩ := Go.Deep.choose_lt hone
    refine ⟨some a, len, _, (List.range len).map f, rfl, by simp, hl, by unfold maxLen at hm; omega, ?_, ?_⟩
    rotate_left
    · intro X hX
      obtain ⟨i, hi, rfl⟩ := List.mem_map.1 hX
      exact (hfX i (List.mem_range.1 hi)).1
    have hR : ∀ r ∈ ((List.range len).map f).map (fun e : En => e.cells.toList), r.length = 9 := by
      intro r hr
      obtain ⟨X, _, rfl⟩ := List.mem_map.1 hr
      rfl
    intro hne
    have hpos : 0 < len := by
      rcases Nat.eq_zero_or_pos len with h0 | h0
      · subst h0; simp [rws] at hne
      · exact h0
    have h00 := (hfX 0 hpos).2 0 _ rfl
    obtain ⟨b, off, spot⟩ := a
    have hspot : spot = none := by
      have := World.cell?_spot h00
      simpa [Addr.add] using this
    subst hspot
    have hlt := World.block_lt_of_cell? W _ h00
    refine ⟨b, off, rfl, by simpa [Addr.add] using hlt, fun j u hu => ?_⟩
    have e : j = j / 9 * 9 + j % 9 := by omega
    have hm7 : j % 9 < 9 := Nat.mod_lt _ (by omega)
    unfold rws at hu
    rw [e, flatM_get 9 _ _ _ hR hm7] at hu
    cases hq : (((List.range len).map f).map (fun e : En => e.cells.toList))[j / 9]? with
    | none => rw [hq] at hu; cases hu
    | some rr =>
      rw [hq] at hu
      obtain ⟨hlt7, rfl⟩ := List.getElem?_eq_some_iff.1 hq
      have hlt8 : j / 9 < len := by simpa using hlt7
      simp only [Option.bind_some, List.getElem_map, List.getElem_range] at hu
      have := (hfX (j / 9) hlt8).2 (j % 9) u hu
      rw [add_lit, add_lit, Nat.add_assoc, ← e] at this
      exact this
end
end Go.Proofs.YteahbalcielhpaaDoor
