/-
  The laws' arguments: accounts, transfers and ids, lists of them, as they read.
-/
import Derived.Test.YtbofabmgfkploaaEv
import Derived.Test.YtbofabmgfkploaaLift
import Derived.ChangeSlices
import Derived.Deep.Slices
namespace Go.Proofs.Ytbofabmgfkploaa
open Go.ChangeShapes Go.WideShapes Go.ChangeAt Go.RowKit
set_option maxRecDepth 10000

section
variable {H : Type} {enc : TypeId × Value → H} {W : World}

theorem cellsInt : Try.prog.cellsOf 3 = 1 := by kernel_rfl
theorem cellsU64 : Try.prog.cellsOf 41 = 1 := by kernel_rfl
theorem cellsAc : Try.prog.cellsOf 45 = 4 := by kernel_rfl
theorem cellsTr : Try.prog.cellsOf 43 = 4 := by kernel_rfl
theorem cells_get {w : World} {a : Addr} {n : Nat} {cs : List Value} (h : w.cells? 0 a n = some cs) : cs.length = n ∧ ∀ j v, cs[j]? = some v → w.cell? (a.add j) = some v := by
  unfold World.cells? at h
  rw [if_pos (Nat.zero_le _)] at h
  refine ⟨by simpa using mapM_some_length h, fun j v hv => ?_⟩
  have hl : cs.length = n := by simpa using mapM_some_length h
  have hj : j < n := by rw [← hl]; exact (List.getElem?_eq_some_iff.1 hv).1
  have := mapM_some_get h j j (by simp [hj])
  rw [this, hv]
/-- a struct's cells -/
theorem open_ac_cells {fuel : Nat} {cs : List Value} {x : DataW H × List MemPlace} (h : DataW.trod enc Try.prog W 0 (fun _ => true) true fuel 45 cs = some x) :
    ∃ X : Ac, cs = X.cells ∧ X.ok := by
  obtain ⟨xs, n, _, _, hlen, hxs, hf⟩ := DataW.trod_struct Try.underlying45 h
  rw [cellsAc] at hlen
  match cs, hlen with
  | [v0, v1, v2, v3], _ =>
    have hx : ∀ i, i < 4 → ∃ y, xs[i]? = some y := fun i hi => ⟨_, List.getElem?_eq_getElem (by rw [hxs]; exact hi)⟩
    obtain ⟨y0, e0⟩ := hx 0 (by omega)
    have h0 := (hf 0 _ rfl).trans e0
    have t0 : DataW.trod enc Try.prog W 0 (fun _ => true) true n 41 [v0] = some y0 := by rw [← h0]; show _ = DataW.trod _ _ _ _ _ _ _ _ (List.take (Try.prog.cellsOf 41) _); rw [cellsU64]; rfl
    obtain ⟨z0, q0, _, w0⟩ := DataW.trod_int Try.underlying41 t0
    obtain ⟨y1, e1⟩ := hx 1 (by omega)
    have h1 := (hf 1 _ rfl).trans e1
    have t1 : DataW.trod enc Try.prog W 0 (fun _ => true) true n 3 [v1] = some y1 := by rw [← h1]; show _ = DataW.trod _ _ _ _ _ _ _ _ (List.take (Try.prog.cellsOf 3) _); rw [cellsInt]; rfl
    obtain ⟨z1, q1, _, w1⟩ := DataW.trod_int Try.underlying3 t1
    obtain ⟨y2, e2⟩ := hx 2 (by omega)
    have h2 := (hf 2 _ rfl).trans e2
    have t2 : DataW.trod enc Try.prog W 0 (fun _ => true) true n 41 [v2] = some y2 := by rw [← h2]; show _ = DataW.trod _ _ _ _ _ _ _ _ (List.take (Try.prog.cellsOf 41) _); rw [cellsU64]; rfl
    obtain ⟨z2, q2, _, w2⟩ := DataW.trod_int Try.underlying41 t2
    obtain ⟨y3, e3⟩ := hx 3 (by omega)
    have h3 := (hf 3 _ rfl).trans e3
    have t3 : DataW.trod enc Try.prog W 0 (fun _ => true) true n 41 [v3] = some y3 := by rw [← h3]; show _ = DataW.trod _ _ _ _ _ _ _ _ (List.take (Try.prog.cellsOf 41) _); rw [cellsU64]; rfl
    obtain ⟨z3, q3, _, w3⟩ := DataW.trod_int Try.underlying41 t3
    obtain ⟨m0, rfl, b0⟩ := u64_bounds w0
    obtain ⟨m2, rfl, b2⟩ := u64_bounds w2
    obtain ⟨m3, rfl, b3⟩ := u64_bounds w3
    cases q0; cases q1; cases q2; cases q3
    exact ⟨⟨m0, z1, m2, m3⟩, rfl, b0, i64_bounds w1, b2, b3⟩
/-- a struct's cells -/
theorem open_tr_cells {fuel : Nat} {cs : List Value} {x : DataW H × List MemPlace} (h : DataW.trod enc Try.prog W 0 (fun _ => true) true fuel 43 cs = some x) :
    ∃ X : Tr, cs = X.cells ∧ X.ok := by
  obtain ⟨xs, n, _, _, hlen, hxs, hf⟩ := DataW.trod_struct Try.underlying43 h
  rw [cellsTr] at hlen
  match cs, hlen with
  | [v0, v1, v2, v3], _ =>
    have hx : ∀ i, i < 4 → ∃ y, xs[i]? = some y := fun i hi => ⟨_, List.getElem?_eq_getElem (by rw [hxs]; exact hi)⟩
    obtain ⟨y0, e0⟩ := hx 0 (by omega)
    have h0 := (hf 0 _ rfl).trans e0
    have t0 : DataW.trod enc Try.prog W 0 (fun _ => true) true n 41 [v0] = some y0 := by rw [← h0]; show _ = DataW.trod _ _ _ _ _ _ _ _ (List.take (Try.prog.cellsOf 41) _); rw [cellsU64]; rfl
    obtain ⟨z0, q0, _, w0⟩ := DataW.trod_int Try.underlying41 t0
    obtain ⟨y1, e1⟩ := hx 1 (by omega)
    have h1 := (hf 1 _ rfl).trans e1
    have t1 : DataW.trod enc Try.prog W 0 (fun _ => true) true n 41 [v1] = some y1 := by rw [← h1]; show _ = DataW.trod _ _ _ _ _ _ _ _ (List.take (Try.prog.cellsOf 41) _); rw [cellsU64]; rfl
    obtain ⟨z1, q1, _, w1⟩ := DataW.trod_int Try.underlying41 t1
    obtain ⟨y2, e2⟩ := hx 2 (by omega)
    have h2 := (hf 2 _ rfl).trans e2
    have t2 : DataW.trod enc Try.prog W 0 (fun _ => true) true n 41 [v2] = some y2 := by rw [← h2]; show _ = DataW.trod _ _ _ _ _ _ _ _ (List.take (Try.prog.cellsOf 41) _); rw [cellsU64]; rfl
    obtain ⟨z2, q2, _, w2⟩ := DataW.trod_int Try.underlying41 t2
    obtain ⟨y3, e3⟩ := hx 3 (by omega)
    have h3 := (hf 3 _ rfl).trans e3
    have t3 : DataW.trod enc Try.prog W 0 (fun _ => true) true n 41 [v3] = some y3 := by rw [← h3]; show _ = DataW.trod _ _ _ _ _ _ _ _ (List.take (Try.prog.cellsOf 41) _); rw [cellsU64]; rfl
    obtain ⟨z3, q3, _, w3⟩ := DataW.trod_int Try.underlying41 t3
    obtain ⟨m0, rfl, b0⟩ := u64_bounds w0
    obtain ⟨m1, rfl, b1⟩ := u64_bounds w1
    obtain ⟨m2, rfl, b2⟩ := u64_bounds w2
    obtain ⟨m3, rfl, b3⟩ := u64_bounds w3
    cases q0; cases q1; cases q2; cases q3
    exact ⟨⟨m0, m1, m2, m3⟩, rfl, b0, b1, b2, b3⟩
/-- an argument Account -/
theorem open_account {v : Value} {d : DataW H} {ps : List MemPlace} {b0 : Nat} {r : Reach} (hval : Value.okWide Try.prog W r b0 45 v) (h : DataW.Trod enc Try.prog W 0 (fun _ => true) true 45 v d ps) :
    ∃ X : Ac, v = .agg X.cells.toArray ∧ X.ok := by
  obtain ⟨cs, rfl, hsz⟩ := okWide_struct Try.underlying45 hval
  obtain ⟨fuel, hf⟩ := h
  obtain ⟨X, hX, hok⟩ := open_ac_cells hf
  refine ⟨X, ?_, hok⟩
  have : cs = X.cells.toArray := by
    apply Array.toList_inj.1
    simpa [Value.cells] using hX
  rw [this]
/-- an argument []api.Account -/
theorem open_accs {v : Value} {d : DataW H} {ps : List MemPlace} {b0 : Nat} {r : Reach} (hval : Value.okWide Try.prog W r b0 27 v) (h : DataW.Trod enc Try.prog W 0 (fun _ => true) true 27 v d ps) :
    ∃ (A : Option Addr) (n c : Nat) (XS : List Ac), v = .slice A n c ∧ n = XS.length ∧ n ≤ c ∧ n ≤ 9223372036854775807 ∧ (∀ X ∈ XS, X.ok) ∧ Rd W W.heap.size A (rows Ac.cells XS) := by
  obtain ⟨a0, len, cap, rfl⟩ := okWide_slice Try.underlying27 hval
  obtain ⟨fuel, hf⟩ := h
  rcases Go.Deep.open_slice Try.underlying27 hf with ⟨hcs, _⟩ | ⟨a, len', cap', m, n, D, Pl, hcs, _, hl, hm, hmm, _, hel⟩
  · simp [Value.cells] at hcs
    obtain ⟨rfl, rfl, rfl⟩ := hcs
    exact ⟨none, 0, 0, [], rfl, rfl, by omega, by omega, by simp, Rd.nil⟩
  · simp [Value.cells] at hcs
    obtain ⟨rfl, rfl, rfl⟩ := hcs
    simp only [if_true] at hmm
    subst hmm
    have hone : ∀ i, i < len → ∃ X : Ac, X.ok ∧ ∀ j v, X.cells[j]? = some v → W.cell? ((a.add (i * 4)).add j) = some v := by
      intro i hi
      obtain ⟨cs', h1, h2⟩ := hel i (by omega)
      rw [cellsAc] at h1
      obtain ⟨X, rfl, hok⟩ := open_ac_cells h2
      exact ⟨X, hok, (cells_get h1).2⟩
    have : Inhabited Ac := ⟨⟨0, 0, 0, 0⟩⟩
    obtain ⟨f, hfX⟩ := Go.Deep.choose_lt hone
    refine ⟨some a, len, _, (List.range len).map f, rfl, by simp, hl, by unfold maxLen at hm; omega, ?_, ?_⟩
    · intro X hX
      obtain ⟨i, hi, rfl⟩ := List.mem_map.1 hX
      exact (hfX i (List.mem_range.1 hi)).1
    · have hR : ∀ r ∈ ((List.range len).map f).map Ac.cells, r.length = 4 := by
        intro r hr
        obtain ⟨X, _, rfl⟩ := List.mem_map.1 hr
        rfl
      intro hne
      have hpos : 0 < len := by
        rcases Nat.eq_zero_or_pos len with h0 | h0
        · subst h0; simp [rows] at hne
        · exact h0
      have h00 := (hfX 0 hpos).2 0 _ rfl
      obtain ⟨b, off, spot⟩ := a
      have hspot : spot = none := by
        have := World.cell?_spot h00
        simpa [Addr.add] using this
      subst hspot
      have hlt := World.block_lt_of_cell? W _ h00
      refine ⟨b, off, rfl, by simpa [Addr.add] using hlt, fun j u hu => ?_⟩
      have e : j = j / 4 * 4 + j % 4 := by omega
      have hm7 : j % 4 < 4 := Nat.mod_lt _ (by omega)
      unfold rows at hu
      rw [e, flat_get 4 _ _ _ hR hm7] at hu
      cases hq : (((List.range len).map f).map Ac.cells)[j / 4]? with
      | none => rw [hq] at hu; cases hu
      | some rr =>
        rw [hq] at hu
        obtain ⟨hlt7, rfl⟩ := List.getElem?_eq_some_iff.1 hq
        have hlt8 : j / 4 < len := by simpa using hlt7
        simp only [Option.bind_some, List.getElem_map, List.getElem_range] at hu
        have := (hfX (j / 4) hlt8).2 (j % 4) u hu
        rw [add_lit, add_lit, Nat.add_assoc, ← e] at this
        exact this
/-- an argument []api.Transfer -/
theorem open_trs {v : Value} {d : DataW H} {ps : List MemPlace} {b0 : Nat} {r : Reach} (hval : Value.okWide Try.prog W r b0 28 v) (h : DataW.Trod enc Try.prog W 0 (fun _ => true) true 28 v d ps) :
    ∃ (A : Option Addr) (n c : Nat) (XS : List Tr), v = .slice A n c ∧ n = XS.length ∧ n ≤ c ∧ n ≤ 9223372036854775807 ∧ (∀ X ∈ XS, X.ok) ∧ Rd W W.heap.size A (rows Tr.cells XS) := by
  obtain ⟨a0, len, cap, rfl⟩ := okWide_slice Try.underlying28 hval
  obtain ⟨fuel, hf⟩ := h
  rcases Go.Deep.open_slice Try.underlying28 hf with ⟨hcs, _⟩ | ⟨a, len', cap', m, n, D, Pl, hcs, _, hl, hm, hmm, _, hel⟩
  · simp [Value.cells] at hcs
    obtain ⟨rfl, rfl, rfl⟩ := hcs
    exact ⟨none, 0, 0, [], rfl, rfl, by omega, by omega, by simp, Rd.nil⟩
  · simp [Value.cells] at hcs
    obtain ⟨rfl, rfl, rfl⟩ := hcs
    simp only [if_true] at hmm
    subst hmm
    have hone : ∀ i, i < len → ∃ X : Tr, X.ok ∧ ∀ j v, X.cells[j]? = some v → W.cell? ((a.add (i * 4)).add j) = some v := by
      intro i hi
      obtain ⟨cs', h1, h2⟩ := hel i (by omega)
      rw [cellsTr] at h1
      obtain ⟨X, rfl, hok⟩ := open_tr_cells h2
      exact ⟨X, hok, (cells_get h1).2⟩
    have : Inhabited Tr := ⟨⟨0, 0, 0, 0⟩⟩
    obtain ⟨f, hfX⟩ := Go.Deep.choose_lt hone
    refine ⟨some a, len, _, (List.range len).map f, rfl, by simp, hl, by unfold maxLen at hm; omega, ?_, ?_⟩
    · intro X hX
      obtain ⟨i, hi, rfl⟩ := List.mem_map.1 hX
      exact (hfX i (List.mem_range.1 hi)).1
    · have hR : ∀ r ∈ ((List.range len).map f).map Tr.cells, r.length = 4 := by
        intro r hr
        obtain ⟨X, _, rfl⟩ := List.mem_map.1 hr
        rfl
      intro hne
      have hpos : 0 < len := by
        rcases Nat.eq_zero_or_pos len with h0 | h0
        · subst h0; simp [rows] at hne
        · exact h0
      have h00 := (hfX 0 hpos).2 0 _ rfl
      obtain ⟨b, off, spot⟩ := a
      have hspot : spot = none := by
        have := World.cell?_spot h00
        simpa [Addr.add] using this
      subst hspot
      have hlt := World.block_lt_of_cell? W _ h00
      refine ⟨b, off, rfl, by simpa [Addr.add] using hlt, fun j u hu => ?_⟩
      have e : j = j / 4 * 4 + j % 4 := by omega
      have hm7 : j % 4 < 4 := Nat.mod_lt _ (by omega)
      unfold rows at hu
      rw [e, flat_get 4 _ _ _ hR hm7] at hu
      cases hq : (((List.range len).map f).map Tr.cells)[j / 4]? with
      | none => rw [hq] at hu; cases hu
      | some rr =>
        rw [hq] at hu
        obtain ⟨hlt7, rfl⟩ := List.getElem?_eq_some_iff.1 hq
        have hlt8 : j / 4 < len := by simpa using hlt7
        simp only [Option.bind_some, List.getElem_map, List.getElem_range] at hu
        have := (hfX (j / 4) hlt8).2 (j % 4) u hu
        rw [add_lit, add_lit, Nat.add_assoc, ← e] at this
        exact this
/-- an argument []uint64 -/
theorem open_u64s {v : Value} {d : DataW H} {ps : List MemPlace} {b0 : Nat} {r : Reach} (hval : Value.okWide Try.prog W r b0 46 v) (h : DataW.Trod enc Try.prog W 0 (fun _ => true) true 46 v d ps) :
    ∃ (A : Option Addr) (n c : Nat) (XS : List Nat), v = .slice A n c ∧ n = XS.length ∧ n ≤ c ∧ n ≤ 9223372036854775807 ∧ (∀ X ∈ XS, U64 X) ∧ Rd W W.heap.size A (rows Ic XS) := by
  obtain ⟨a0, len, cap, rfl⟩ := okWide_slice Try.underlying46 hval
  obtain ⟨fuel, hf⟩ := h
  rcases open_ints (k := .u64) Try.underlying46 Try.underlying41 cellsU64 hf with ⟨hcs, _⟩ | ⟨a, len', cap', zs, hcs, _, hl, hm, hz, _, hcell, hwz⟩
  · simp [Value.cells] at hcs
    obtain ⟨rfl, rfl, rfl⟩ := hcs
    exact ⟨none, 0, 0, [], rfl, rfl, by omega, by omega, by simp, Rd.nil⟩
  · simp [Value.cells] at hcs
    obtain ⟨rfl, rfl, rfl⟩ := hcs
    simp only [if_true] at hz
    have hlen : ((zs.take len).map Int.toNat).length = len := by simp; omega
    have hpos : ∀ y ∈ zs, 0 ≤ y ∧ y < 18446744073709551616 := fun y hy => by
      obtain ⟨m, rfl, hm2⟩ := u64_bounds (hwz y hy)
      omega
    refine ⟨some a, len, cap, (zs.take len).map Int.toNat, rfl, hlen.symm, hl, by unfold maxLen at hm; omega, ?_, ?_⟩
    · intro y hy
      obtain ⟨z, hz1, rfl⟩ := List.mem_map.1 hy
      have := hpos z (List.mem_of_mem_take hz1)
      show z.toNat < _
      omega
    · rw [rows_Ic]
      intro hne
      have hp : 0 < len := by
        rcases Nat.eq_zero_or_pos len with h0 | h0
        · subst h0; simp at hne
        · exact h0
      obtain ⟨b, off, spot⟩ := a
      have hspot : spot = none := by simpa [Addr.add] using World.cell?_spot (hcell 0 (by omega))
      subst hspot
      refine ⟨b, off, rfl, ?_, fun j u hu => ?_⟩
      · have := World.block_lt_of_cell? W _ (hcell 0 (by omega))
        rw [add_plain] at this
        exact this
      · simp only [List.getElem?_map, Option.map_eq_some_iff] at hu
        obtain ⟨n', ⟨n, hn, rfl⟩, rfl⟩ := hu
        rw [List.getElem?_take] at hn
        split at hn
        · obtain ⟨hjz, rfl⟩ := List.getElem?_eq_some_iff.1 hn
          have h1 := hcell j hjz
          rw [add_plain] at h1
          rw [h1]
          have := hpos zs[j] (List.getElem_mem hjz)
          simp [List.getD, List.getElem?_eq_getElem hjz]
          omega
        · cases hn
end
end Go.Proofs.Ytbofabmgfkploaa
