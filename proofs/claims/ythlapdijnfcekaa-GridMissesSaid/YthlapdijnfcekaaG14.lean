/-
  The laws' arguments: a list of picks, as it reads.
-/
import Derived.Test.YthlapdijnfcekaaG02
import Derived.Test.YthlapdijnfcekaaG08
import Derived.ChangeSlices
import Derived.Deep.Slices
import Derived.OpenShut
import Derived.Test.YthlapdijnfcekaaG07
namespace Go.Proofs.Ythlapdijnfcekaa
open Go.ChangeShapes Go.WideShapes Go.ChangeAt Go.RowKit
set_option maxRecDepth 10000

section
variable {H : Type} {enc : TypeId × Value → H} {W : World}
theorem cellsIntE : Try.prog.cellsOf 3 = 1 := by kernel_rfl
theorem int_of_wfE {n : Int} (h : (Lit.int .i64 n).wf = true) : In64 n := i64_bounds h
/-- a []int's cell -/
theorem open_picks {fuel : Nat} {cs : List Value} {x : DataW H × List MemPlace} (h : DataW.trod enc Try.prog W 0 (fun _ => true) true fuel 22 cs = some x) :
    ∃ (A : Option Addr) (l cap : Nat) (picks : List Int), cs = [.slice A l cap] ∧ l = picks.length ∧ Rd W W.heap.size A (ints picks) ∧ (∀ y ∈ picks, y ≤ 9223372036854775807) ∧ l ≤ 9223372036854775807 := by
  rcases open_ints (k := .i64) Try.underlying22 Try.underlying3 cellsIntE h with ⟨rfl, _⟩ | ⟨a, len, cap, zs, rfl, _, hl, hm, hz, _, hcell, hwz⟩
  · exact ⟨none, 0, 0, [], rfl, rfl, Rd.nil, by simp, by omega⟩
  · simp only [if_true] at hz
    have hlen : (zs.take len).length = len := by simp; omega
    refine ⟨some a, len, cap, zs.take len, rfl, hlen.symm, ?_, ?_, ?_⟩
    · intro hne
      have hpos : 0 < len := by
        rcases Nat.eq_zero_or_pos len with h0 | h0
        · subst h0; simp [ints] at hne
        · exact h0
      obtain ⟨b, off, spot⟩ := a
      have hspot : spot = none := by simpa [Addr.add] using World.cell?_spot (hcell 0 (by omega))
      subst hspot
      refine ⟨b, off, rfl, ?_, fun j u hu => ?_⟩
      · have := World.block_lt_of_cell? W _ (hcell 0 (by omega))
        rw [add_plain] at this
        exact this
      · simp only [ints, List.getElem?_map, Option.map_eq_some_iff] at hu
        obtain ⟨n, hn, rfl⟩ := hu
        rw [List.getElem?_take] at hn
        split at hn
        · obtain ⟨hjz, rfl⟩ := List.getElem?_eq_some_iff.1 hn
          have h1 := hcell j hjz
          rw [add_plain] at h1
          rw [h1]
          simp [List.getD, List.getElem?_eq_getElem hjz]
        · cases hn
    · intro y hy
      exact (i64_bounds (hwz y (List.mem_of_mem_take hy))).2
    · unfold maxLen at hm; omega
/-- an argument []int -/
theorem open_ints_arg {v : Value} {d : DataW H} {ps : List MemPlace} {b0 : Nat} {r : Reach} (hval : Value.okWide Try.prog W r b0 22 v) (h : DataW.Trod enc Try.prog W 0 (fun _ => true) true 22 v d ps) :
    ∃ (A : Option Addr) (l cap : Nat) (picks : List Int), v = .slice A l cap ∧ l = picks.length ∧ Rd W W.heap.size A (ints picks) ∧ (∀ y ∈ picks, y ≤ 9223372036854775807) ∧ l ≤ 9223372036854775807 := by
  obtain ⟨a0, len, cap, rfl⟩ := okWide_slice Try.underlying22 hval
  obtain ⟨fuel, hf⟩ := h
  obtain ⟨A, l, cap', picks, hcs, hl, hr, hp, hpn⟩ := open_picks hf
  simp [Value.cells] at hcs
  obtain ⟨rfl, rfl, rfl⟩ := hcs
  exact ⟨_, _, _, picks, rfl, hl, hr, hp, hpn⟩
end
end Go.Proofs.Ythlapdijnfcekaa
