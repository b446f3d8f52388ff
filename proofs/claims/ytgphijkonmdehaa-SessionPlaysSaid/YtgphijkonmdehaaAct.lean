/-
  The laws' arguments: a call, a list of calls, as they read.
-/
import Derived.Test.YtgphijkonmdehaaLift
import Derived.Test.YtgphijkonmdehaaSs
import Derived.ChangeSlices
import Derived.Deep.Slices
namespace Go.Proofs.Ytgphijkonmdehaa
open Go.ChangeShapes Go.WideShapes Go.ChangeAt Go.RowKit
set_option maxRecDepth 10000

section
variable {H : Type} {enc : TypeId × Value → H} {W : World}
theorem cellsInt : Try.prog.cellsOf 3 = 1 := by kernel_rfl
theorem cellsStr : Try.prog.cellsOf 9 = 1 := by kernel_rfl
theorem cellsAb : Try.prog.cellsOf 34 = 6 := by kernel_rfl
theorem cells_get {w : World} {a : Addr} {n : Nat} {cs : List Value} (h : w.cells? 0 a n = some cs) : cs.length = n ∧ ∀ j v, cs[j]? = some v → w.cell? (a.add j) = some v := by
  unfold World.cells? at h
  rw [if_pos (Nat.zero_le _)] at h
  refine ⟨by simpa using mapM_some_length h, fun j v hv => ?_⟩
  have hl : cs.length = n := by simpa using mapM_some_length h
  have hj : j < n := by rw [← hl]; exact (List.getElem?_eq_some_iff.1 hv).1
  have := mapM_some_get h j j (by simp [hj])
  rw [this, hv]
theorem open_ab_cells {fuel : Nat} {cs : List Value} {x : DataW H × List MemPlace} (h : DataW.trod enc Try.prog W 0 (fun _ => true) true fuel 34 cs = some x) :
    ∃ X : Ab, cs = X.cells := by
  obtain ⟨xs, n, _, _, hlen, hxs, hf⟩ := DataW.trod_struct Try.underlying34 h
  rw [cellsAb] at hlen
  match cs, hlen with
  | [v0, v1, v2, v3, v4, v5], _ =>
    have hx : ∀ i, i < 6 → ∃ y, xs[i]? = some y := fun i hi => ⟨_, List.getElem?_eq_getElem (by rw [hxs]; exact hi)⟩
    obtain ⟨y0, e0⟩ := hx 0 (by omega)
    have h0 := (hf 0 _ rfl).trans e0
    have t0 : DataW.trod enc Try.prog W 0 (fun _ => true) true n 3 [v0] = some y0 := by rw [← h0]; show _ = DataW.trod _ _ _ _ _ _ _ _ (List.take (Try.prog.cellsOf 3) _); rw [cellsInt]; rfl
    obtain ⟨z0, q0, _, _⟩ := DataW.trod_int Try.underlying3 t0
    obtain ⟨y1, e1⟩ := hx 1 (by omega)
    have h1 := (hf 1 _ rfl).trans e1
    have t1 : DataW.trod enc Try.prog W 0 (fun _ => true) true n 3 [v1] = some y1 := by rw [← h1]; show _ = DataW.trod _ _ _ _ _ _ _ _ (List.take (Try.prog.cellsOf 3) _); rw [cellsInt]; rfl
    obtain ⟨z1, q1, _, _⟩ := DataW.trod_int Try.underlying3 t1
    obtain ⟨y2, e2⟩ := hx 2 (by omega)
    have h2 := (hf 2 _ rfl).trans e2
    have t2 : DataW.trod enc Try.prog W 0 (fun _ => true) true n 3 [v2] = some y2 := by rw [← h2]; show _ = DataW.trod _ _ _ _ _ _ _ _ (List.take (Try.prog.cellsOf 3) _); rw [cellsInt]; rfl
    obtain ⟨z2, q2, _, _⟩ := DataW.trod_int Try.underlying3 t2
    obtain ⟨y3, e3⟩ := hx 3 (by omega)
    have h3 := (hf 3 _ rfl).trans e3
    have t3 : DataW.trod enc Try.prog W 0 (fun _ => true) true n 3 [v3] = some y3 := by rw [← h3]; show _ = DataW.trod _ _ _ _ _ _ _ _ (List.take (Try.prog.cellsOf 3) _); rw [cellsInt]; rfl
    obtain ⟨z3, q3, _, _⟩ := DataW.trod_int Try.underlying3 t3
    obtain ⟨y4, e4⟩ := hx 4 (by omega)
    have h4 := (hf 4 _ rfl).trans e4
    have t4 : DataW.trod enc Try.prog W 0 (fun _ => true) true n 3 [v4] = some y4 := by rw [← h4]; show _ = DataW.trod _ _ _ _ _ _ _ _ (List.take (Try.prog.cellsOf 3) _); rw [cellsInt]; rfl
    obtain ⟨z4, q4, _, _⟩ := DataW.trod_int Try.underlying3 t4
    obtain ⟨y5, e5⟩ := hx 5 (by omega)
    have h5 := (hf 5 _ rfl).trans e5
    have t5 : DataW.trod enc Try.prog W 0 (fun _ => true) true n 9 [v5] = some y5 := by rw [← h5]; show _ = DataW.trod _ _ _ _ _ _ _ _ (List.take (Try.prog.cellsOf 9) _); rw [cellsStr]; rfl
    obtain ⟨z5, q5, _, _⟩ := DataW.trod_string Try.underlying9 t5
    cases q0; cases q1; cases q2; cases q3; cases q4; cases q5
    exact ⟨⟨z0, z1, z2, z3, z4, z5⟩, rfl⟩
/-- an argument Act -/
theorem open_act {v : Value} {d : DataW H} {ps : List MemPlace} {b0 : Nat} {r : Reach} (hval : Value.okWide Try.prog W r b0 34 v) (h : DataW.Trod enc Try.prog W 0 (fun _ => true) true 34 v d ps) :
    ∃ X : Ab, v = .agg X.cells.toArray := by
  obtain ⟨cs, rfl, hsz⟩ := okWide_struct Try.underlying34 hval
  obtain ⟨fuel, hf⟩ := h
  obtain ⟨X, hX⟩ := open_ab_cells hf
  refine ⟨X, ?_⟩
  have : cs = X.cells.toArray := by
    apply Array.toList_inj.1
    simpa [Value.cells] using hX
  rw [this]
theorem open_acts {v : Value} {d : DataW H} {ps : List MemPlace} {b0 : Nat} {r : Reach} (hval : Value.okWide Try.prog W r b0 22 v) (h : DataW.Trod enc Try.prog W 0 (fun _ => true) true 22 v d ps) :
    ∃ (A : Option Addr) (n c : Nat) (XS : List Ab), v = .slice A n c ∧ n = XS.length ∧ n ≤ c ∧ n ≤ 9223372036854775807 ∧ Rd W W.heap.size A (rows Ab.cells XS) := by
  obtain ⟨a0, len, cap, rfl⟩ := okWide_slice Try.underlying22 hval
  obtain ⟨fuel, hf⟩ := h
  rcases Go.Deep.open_slice Try.underlying22 hf with ⟨hcs, _⟩ | ⟨a, len', cap', m, n, D, Pl, hcs, _, hl, hm, hmm, _, hel⟩
  · simp [Value.cells] at hcs
    obtain ⟨rfl, rfl, rfl⟩ := hcs
    exact ⟨none, 0, 0, [], rfl, rfl, by omega, by omega, Rd.nil⟩
  · simp [Value.cells] at hcs
    obtain ⟨rfl, rfl, rfl⟩ := hcs
    simp only [if_true] at hmm
    subst hmm
    have hone : ∀ i, i < len → ∃ X : Ab, ∀ j v, X.cells[j]? = some v → W.cell? ((a.add (i * 6)).add j) = some v := by
      intro i hi
      obtain ⟨cs', h1, h2⟩ := hel i (by omega)
      rw [cellsAb] at h1
      obtain ⟨X, rfl⟩ := open_ab_cells h2
      exact ⟨X, (cells_get h1).2⟩
    have : Inhabited Ab := ⟨⟨0, 0, 0, 0, 0, ⟨#[]⟩⟩⟩
    obtain ⟨f, hfX⟩ := Go.Deep.choose_lt hone
    refine ⟨some a, len, _, (List.range len).map f, rfl, by simp, hl, by unfold maxLen at hm; omega, ?_⟩
    have hR : ∀ r ∈ ((List.range len).map f).map Ab.cells, r.length = 6 := by
      intro r hr
      obtain ⟨X, _, rfl⟩ := List.mem_map.1 hr
      rfl
    intro hne
    have hpos : 0 < len := by
      rcases Nat.eq_zero_or_pos len with h0 | h0
      · subst h0; simp [rows] at hne
      · exact h0
    have h00 := hfX 0 hpos 0 _ rfl
    obtain ⟨b, off, spot⟩ := a
    have hspot : spot = none := by
      have := World.cell?_spot h00
      simpa [Addr.add] using this
    subst hspot
    have hlt := World.block_lt_of_cell? W _ h00
    refine ⟨b, off, rfl, by simpa [Addr.add] using hlt, fun j u hu => ?_⟩
    have e : j = j / 6 * 6 + j % 6 := by omega
    have hm7 : j % 6 < 6 := Nat.mod_lt _ (by omega)
    unfold rows at hu
    rw [e, flat_get 6 _ _ _ hR hm7] at hu
    cases hq : (((List.range len).map f).map Ab.cells)[j / 6]? with
    | none => rw [hq] at hu; cases hu
    | some rr =>
      rw [hq] at hu
      obtain ⟨hlt7, rfl⟩ := List.getElem?_eq_some_iff.1 hq
      have hlt8 : j / 6 < len := by simpa using hlt7
      simp only [Option.bind_some, List.getElem_map, List.getElem_range] at hu
      have := hfX (j / 6) hlt8 (j % 6) u hu
      rw [add_lit, add_lit, Nat.add_assoc, ← e] at this
      exact this
end
end Go.Proofs.Ytgphijkonmdehaa
