/-
  The laws' arguments: a stub, a list of picks, as they read.
-/
import Derived.Test.YtdcoiehhnllhmaaDoorM20
import Derived.Test.YtdcoiehhnllhmaaDoorM13
import Derived.Test.YtdcoiehhnllhmaaDoorM16
import Derived.ChangeSlices
import Derived.Deep.Slices
import Derived.OpenShut
namespace Go.Proofs.YtdcoiehhnllhmaaDoor
open Go.ChangeShapes Go.WideShapes Go.ChangeAt Go.RowKit
set_option maxRecDepth 10000

section
variable {H : Type} {enc : TypeId × Value → H} {W : World}
theorem cellsSt : Tryd.prog.cellsOf 26 = 5 := by kernel_rfl
/-- an argument Stub -/
theorem open_stub {v : Value} {d : DataW H} {ps : List MemPlace} {b0 : Nat} {r : Reach} (hval : Value.okWide Tryd.prog W r b0 26 v) (h : DataW.Trod enc Tryd.prog W 0 (fun _ => true) true 26 v d ps) :
    ∃ X : St, v = X.val ∧ X.fits := by
  obtain ⟨cs, rfl, hsz⟩ := okWide_struct Tryd.underlying26 hval
  obtain ⟨fuel, hf0⟩ := h
  obtain ⟨xs, n, _, _, hlen, hxs, hf⟩ := DataW.trod_struct Tryd.underlying26 hf0
  rw [cellsSt] at hlen
  obtain ⟨l, rfl⟩ : ∃ l : List Value, cs = l.toArray := ⟨cs.toList, by simp⟩
  simp only [Value.cells] at hlen hf
  match l, hlen with
  | [v0, v1, v2, v3, v4], _ =>
    have hx : ∀ i, i < 5 → ∃ y, xs[i]? = some y := fun i hi => ⟨_, List.getElem?_eq_getElem (by rw [hxs]; exact hi)⟩
    obtain ⟨y0, e0⟩ := hx 0 (by omega)
    have h0 := (hf 0 _ rfl).trans e0
    have t0 : DataW.trod enc Tryd.prog W 0 (fun _ => true) true n 3 [v0] = some y0 := by rw [← h0]; show _ = DataW.trod _ _ _ _ _ _ _ _ (List.take (Tryd.prog.cellsOf 3) _); rw [cellsIntE]; rfl
    obtain ⟨z0, q0, _, w0⟩ := DataW.trod_int Tryd.underlying3 t0
    obtain ⟨y1, e1⟩ := hx 1 (by omega)
    have h1 := (hf 1 _ rfl).trans e1
    have t1 : DataW.trod enc Tryd.prog W 0 (fun _ => true) true n 3 [v1] = some y1 := by rw [← h1]; show _ = DataW.trod _ _ _ _ _ _ _ _ (List.take (Tryd.prog.cellsOf 3) _); rw [cellsIntE]; rfl
    obtain ⟨z1, q1, _, w1⟩ := DataW.trod_int Tryd.underlying3 t1
    obtain ⟨y2, e2⟩ := hx 2 (by omega)
    have h2 := (hf 2 _ rfl).trans e2
    have t2 : DataW.trod enc Tryd.prog W 0 (fun _ => true) true n 3 [v2] = some y2 := by rw [← h2]; show _ = DataW.trod _ _ _ _ _ _ _ _ (List.take (Tryd.prog.cellsOf 3) _); rw [cellsIntE]; rfl
    obtain ⟨z2, q2, _, w2⟩ := DataW.trod_int Tryd.underlying3 t2
    obtain ⟨y3, e3⟩ := hx 3 (by omega)
    have h3 := (hf 3 _ rfl).trans e3
    have t3 : DataW.trod enc Tryd.prog W 0 (fun _ => true) true n 22 [v3] = some y3 := by rw [← h3]; show _ = DataW.trod _ _ _ _ _ _ _ _ (List.take (Tryd.prog.cellsOf 22) _); rw [cellsU64E]; rfl
    obtain ⟨z3, q3, _, w3⟩ := DataW.trod_int Tryd.underlying22 t3
    obtain ⟨m3, rfl, hm3⟩ := u64_bounds w3
    obtain ⟨y4, e4⟩ := hx 4 (by omega)
    have h4 := (hf 4 _ rfl).trans e4
    have t4 : DataW.trod enc Tryd.prog W 0 (fun _ => true) true n 22 [v4] = some y4 := by rw [← h4]; show _ = DataW.trod _ _ _ _ _ _ _ _ (List.take (Tryd.prog.cellsOf 22) _); rw [cellsU64E]; rfl
    obtain ⟨z4, q4, _, w4⟩ := DataW.trod_int Tryd.underlying22 t4
    obtain ⟨m4, rfl, hm4⟩ := u64_bounds w4
    cases q0; cases q1; cases q2; cases q3; cases q4
    exact ⟨⟨z0, z1, z2, m3, m4⟩, rfl, ⟨int_of_wfE w0, int_of_wfE w1, int_of_wfE w2⟩, hm3, hm4⟩
/-- a []int's cell -/
theorem open_picks {fuel : Nat} {cs : List Value} {x : DataW H × List MemPlace} (h : DataW.trod enc Tryd.prog W 0 (fun _ => true) true fuel 44 cs = some x) :
    ∃ (A : Option Addr) (l cap : Nat) (picks : List Int), cs = [.slice A l cap] ∧ l = picks.length ∧ Rd W W.heap.size A (ints picks) ∧ (∀ y ∈ picks, y ≤ 9223372036854775807) ∧ l ≤ 9223372036854775807 := by
  rcases open_ints (k := .i64) Tryd.underlying44 Tryd.underlying3 cellsIntE h with ⟨rfl, _⟩ | ⟨a, len, cap, zs, rfl, _, hl, hm, hz, _, hcell, hwz⟩
  · exact ⟨none, 0, 0, [], rfl, rfl, Rd.nil, by simp, by omega⟩
  · simp only [if_true] at hz
    have hlen : (zs.take len).length = len := by simp; omega
    refine ⟨some a, len, cap, zs.take len, rfl, hlen.symm, ?_, ?_, ?_⟩
    · intro hne
      have hpos : 0 < len := by
        rcases Nat.eq_zero_or_pos len with h0 | h0
        · subst h0; simp [ints] at hne
        · exact h0
      obtain ⟨b, off, spot⟩ := a
      have hspot : spot = none := by simpa [Addr.add] using World.cell?_spot (hcell 0 (by omega))
      subst hspot
      refine ⟨b, off, rfl, ?_, fun j u hu => ?_⟩
      · have := World.block_lt_of_cell? W _ (hcell 0 (by omega))
        rw [add_plain] at this
        exact this
      · simp only [ints, List.getElem?_map, Option.map_eq_some_iff] at hu
        obtain ⟨n, hn, rfl⟩ := hu
        rw [List.getElem?_take] at hn
        split at hn
        · obtain ⟨hjz, rfl⟩ := List.getElem?_eq_some_iff.1 hn
          have h1 := hcell j hjz
          rw [add_plain] at h1
          rw [h1]
          simp [List.getD, List.getElem?_eq_getElem hjz]
        · cases hn
    · intro y hy
      exact (i64_bounds (hwz y (List.mem_of_mem_take hy))).2
    · unfold maxLen at hm; omega

/-- an argument []int -/
theorem open_ints_arg {v : Value} {d : DataW H} {ps : List MemPlace} {b0 : Nat} {r : Reach} (hval : Value.okWide Tryd.prog W r b0 44 v) (h : DataW.Trod enc Tryd.prog W 0 (fun _ => true) true 44 v d ps) :
    ∃ (A : Option Addr) (l cap : Nat) (picks : List Int), v = .slice A l cap ∧ l = picks.length ∧ Rd W W.heap.size A (ints picks) ∧ (∀ y ∈ picks, y ≤ 9223372036854775807) ∧ l ≤ 9223372036854775807 := by
  obtain ⟨a0, len, cap, rfl⟩ := okWide_slice Tryd.underlying44 hval
  obtain ⟨fuel, hf⟩ := h
  obtain ⟨A, l, cap', picks, hcs, hl, hr, hp, hpn⟩ := open_picks hf
  simp [Value.cells] at hcs
  obtain ⟨rfl, rfl, rfl⟩ := hcs
  exact ⟨_, _, _, picks, rfl, hl, hr, hp, hpn⟩

end
end Go.Proofs.YtdcoiehhnllhmaaDoor
