/-
  The laws' argument: a list of operations, as it reads.
-/
import Derived.Test.YtbofabmgfkploaaOpenev
namespace Go.Proofs.Ytbofabmgfkploaa
open Go.ChangeShapes Go.WideShapes Go.ChangeAt Go.RowKit
set_option maxRecDepth 10000

structure Ab where
  op : Int
  body : ByteArray
def Ab.cells (x : Ab) : List Value := [.int .i64 x.op, .string x.body]
theorem Ab.len (x : Ab) : x.cells.length = 2 := rfl
section
variable {H : Type} {enc : TypeId × Value → H} {W : World}
theorem cellsStr : Try.prog.cellsOf 9 = 1 := by kernel_rfl
theorem cellsAb : Try.prog.cellsOf 32 = 2 := by kernel_rfl
theorem open_ab_cells {fuel : Nat} {cs : List Value} {x : DataW H × List MemPlace} (h : DataW.trod enc Try.prog W 0 (fun _ => true) true fuel 32 cs = some x) :
    ∃ X : Ab, cs = X.cells := by
  obtain ⟨xs, n, _, _, hlen, hxs, hf⟩ := DataW.trod_struct Try.underlying32 h
  rw [cellsAb] at hlen
  match cs, hlen with
  | [v0, v1], _ =>
    have hx : ∀ i, i < 2 → ∃ y, xs[i]? = some y := fun i hi => ⟨_, List.getElem?_eq_getElem (by rw [hxs]; exact hi)⟩
    obtain ⟨y0, e0⟩ := hx 0 (by omega)
    have h0 := (hf 0 _ rfl).trans e0
    have t0 : DataW.trod enc Try.prog W 0 (fun _ => true) true n 3 [v0] = some y0 := by rw [← h0]; show _ = DataW.trod _ _ _ _ _ _ _ _ (List.take (Try.prog.cellsOf 3) _); rw [cellsInt]; rfl
    obtain ⟨z0, q0, _, _⟩ := DataW.trod_int Try.underlying3 t0
    obtain ⟨y1, e1⟩ := hx 1 (by omega)
    have h1 := (hf 1 _ rfl).trans e1
    have t1 : DataW.trod enc Try.prog W 0 (fun _ => true) true n 9 [v1] = some y1 := by rw [← h1]; show _ = DataW.trod _ _ _ _ _ _ _ _ (List.take (Try.prog.cellsOf 9) _); rw [cellsStr]; rfl
    obtain ⟨z1, q1, _, _⟩ := DataW.trod_string Try.underlying9 t1
    cases q0; cases q1
    exact ⟨⟨z0, z1⟩, rfl⟩
theorem open_acts {v : Value} {d : DataW H} {ps : List MemPlace} {b0 : Nat} {r : Reach} (hval : Value.okWide Try.prog W r b0 22 v) (h : DataW.Trod enc Try.prog W 0 (fun _ => true) true 22 v d ps) :
    ∃ (A : Option Addr) (n c : Nat) (XS : List Ab), v = .slice A n c ∧ n = XS.length ∧ n ≤ c ∧ n ≤ 9223372036854775807 ∧ Rd W W.heap.size A (rows Ab.cells XS) := by
  obtain ⟨a0, len, cap, rfl⟩ := okWide_slice Try.underlying22 hval
  obtain ⟨fuel, hf⟩ := h
  rcases Go.Deep.open_slice Try.underlying22 hf with ⟨hcs, _⟩ | ⟨a, len', cap', m, n, D, Pl, hcs, _, hl, hm, hmm, _, hel⟩
  · simp [Value.cells] at hcs
    obtain ⟨rfl, rfl, rfl⟩ := hcs
    exact ⟨none, 0, 0, [], rfl, rfl, by omega, by omega, Rd.nil⟩
  · simp [Value.cells] at hcs
    obtain ⟨rfl, rfl, rfl⟩ := hcs
    simp only [if_true] at hmm
    subst hmm
    have hone : ∀ i, i < len → ∃ X : Ab, ∀ j v, X.cells[j]? = some v → W.cell? ((a.add (i * 2)).add j) = some v := by
      intro i hi
      obtain ⟨cs', h1, h2⟩ := hel i (by omega)
      rw [cellsAb] at h1
      obtain ⟨X, rfl⟩ := open_ab_cells h2
      exact ⟨X, (cells_get h1).2⟩
    have : Inhabited Ab := ⟨⟨0, ⟨#[]⟩⟩⟩
    obtain ⟨f, hfX⟩ := Go.Deep.choose_lt hone
    refine ⟨some a, len, _, (List.range len).map f, rfl, by simp, hl, by unfold maxLen at hm; omega, ?_⟩
    have hR : ∀ r ∈ ((List.range len).map f).map Ab.cells, r.length = 2 := by
      intro r hr
      obtain ⟨X, _, rfl⟩ := List.mem_map.1 hr
      rfl
    intro hne
    have hpos : 0 < len := by
      rcases Nat.eq_zero_or_pos len with h0 | h0
      · subst h0; simp [rows] at hne
      · exact h0
    have h00 := hfX 0 hpos 0 _ rfl
    obtain ⟨b, off, spot⟩ := a
    have hspot : spot = none := by
      have := World.cell?_spot h00
      simpa [Addr.add] using this
    subst hspot
    have hlt := World.block_lt_of_cell? W _ h00
    refine ⟨b, off, rfl, by simpa [Addr.add] using hlt, fun j u hu => ?_⟩
    have e : j = j / 2 * 2 + j % 2 := by omega
    have hm7 : j % 2 < 2 := Nat.mod_lt _ (by omega)
    unfold rows at hu
    rw [e, flat_get 2 _ _ _ hR hm7] at hu
    cases hq : (((List.range len).map f).map Ab.cells)[j / 2]? with
    | none => rw [hq] at hu; cases hu
    | some rr =>
      rw [hq] at hu
      obtain ⟨hlt7, rfl⟩ := List.getElem?_eq_some_iff.1 hq
      have hlt8 : j / 2 < len := by simpa using hlt7
      simp only [Option.bind_some, List.getElem_map, List.getElem_range] at hu
      have := hfX (j / 2) hlt8 (j % 2) u hu
      rw [add_lit, add_lit, Nat.add_assoc, ← e] at this
      exact this
end
end Go.Proofs.Ytbofabmgfkploaa
