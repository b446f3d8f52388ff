/-
  The laws' arguments: an Act, a list of Acts, a list of picks, as they read.
-/
import Derived.Test.YtdkgpjmehdpliaaYes
import Derived.Test.YtdkgpjmehdpliaaNilLaw
import Derived.ChangeSlices
import Derived.Deep.Slices
namespace Go.Proofs.Ytdkgpjmehdpliaa
open Go.ChangeShapes Go.WideShapes Go.ChangeAt Go.RowKit

section
variable {H : Type} {enc : TypeId × Value → H} {W : World}

theorem cells3 : Try.prog.cellsOf 3 = 1 := by kernel_rfl
theorem cells5 : Try.prog.cellsOf 5 = 1 := by kernel_rfl
theorem cells9 : Try.prog.cellsOf 9 = 1 := by kernel_rfl
theorem cells32 : Try.prog.cellsOf 32 = 1 := by kernel_rfl
theorem cells34 : Try.prog.cellsOf 34 = 7 := by kernel_rfl

/-- a []int's cell -/
theorem open_picks {fuel : Nat} {cs : List Value} {x : DataW H × List MemPlace} (h : DataW.trod enc Try.prog W 0 (fun _ => true) true fuel 32 cs = some x) :
    ∃ (A : Option Addr) (l cap : Nat) (picks : List Int), cs = [.slice A l cap] ∧ l = picks.length ∧ Rd W W.heap.size A (ints picks) ∧ (∀ y ∈ picks, y ≤ 9223372036854775807) ∧ l ≤ 9223372036854775807 := by
  rcases open_ints (k := .i64) Try.underlying32 Try.underlying3 cells3 h with ⟨rfl, _⟩ | ⟨a, len, cap, zs, rfl, _, hl, hm, hz, _, hcell, hwz⟩
  · exact ⟨none, 0, 0, [], rfl, rfl, Rd.nil, by simp, by omega⟩
  · simp only [if_true] at hz
    have hlen : (zs.take len).length = len := by simp; omega
    refine ⟨some a, len, cap, zs.take len, rfl, hlen.symm, ?_, ?_, ?_⟩
    · intro hne
      have hpos : 0 < len := by
        rcases Nat.eq_zero_or_pos len with h0 | h0
        · subst h0; simp [ints] at hne
        · exact h0
      obtain ⟨b, off, spot⟩ := a
      have hspot : spot = none := by simpa [Addr.add] using World.cell?_spot (hcell 0 (by omega))
      subst hspot
      refine ⟨b, off, rfl, ?_, fun j u hu => ?_⟩
      · have := World.block_lt_of_cell? W _ (hcell 0 (by omega))
        rw [add_plain] at this
        exact this
      · simp only [ints, List.getElem?_map, Option.map_eq_some_iff] at hu
        obtain ⟨n, hn, rfl⟩ := hu
        rw [List.getElem?_take] at hn
        split at hn
        · obtain ⟨hjz, rfl⟩ := List.getElem?_eq_some_iff.1 hn
          have h1 := hcell j hjz
          rw [add_plain] at h1
          rw [h1]
          simp [List.getD, List.getElem?_eq_getElem hjz]
        · cases hn
    · intro y hy
      exact (i64_bounds (hwz y (List.mem_of_mem_take hy))).2
    · unfold maxLen at hm; omega

theorem take_one (cs : List Value) (k : Nat) (v : Value) (h : cs[k]? = some v) : (cs.drop k).take 1 = [v] := by
  rw [List.drop_eq_getElem?_toList_append, h]
  simp
/-- an Act's cells -/
theorem open_act_cells {fuel : Nat} {cs : List Value} {x : DataW H × List MemPlace} (h : DataW.trod enc Try.prog W 0 (fun _ => true) true fuel 34 cs = some x) :
    ∃ X : Act0, cs = X.cells ∧ X.OK W W.heap.size := by
  obtain ⟨xs, n, _, _, hlen, hxs, hf⟩ := DataW.trod_struct Try.underlying34 h
  rw [cells34] at hlen
  match cs, hlen with
  | [v0, v1, v2, v3, v4, v5, v6], _ =>
    have hx : ∀ i, i < 7 → ∃ y, xs[i]? = some y := fun i hi => ⟨_, List.getElem?_eq_getElem (by rw [hxs]; exact hi)⟩
    obtain ⟨y0, e0⟩ := hx 0 (by omega)
    obtain ⟨y1, e1⟩ := hx 1 (by omega)
    obtain ⟨y2, e2⟩ := hx 2 (by omega)
    obtain ⟨y3, e3⟩ := hx 3 (by omega)
    obtain ⟨y4, e4⟩ := hx 4 (by omega)
    obtain ⟨y5, e5⟩ := hx 5 (by omega)
    obtain ⟨y6, e6⟩ := hx 6 (by omega)
    have h0 := (hf 0 _ rfl).trans e0
    have h1 := (hf 1 _ rfl).trans e1
    have h2 := (hf 2 _ rfl).trans e2
    have h3 := (hf 3 _ rfl).trans e3
    have h4 := (hf 4 _ rfl).trans e4
    have h5 := (hf 5 _ rfl).trans e5
    have h6 := (hf 6 _ rfl).trans e6
    have t0 : DataW.trod enc Try.prog W 0 (fun _ => true) true n 3 [v0] = some y0 := by rw [← h0]; show _ = DataW.trod _ _ _ _ _ _ _ _ (List.take (Try.prog.cellsOf 3) _); rw [cells3]; rfl
    have t1 : DataW.trod enc Try.prog W 0 (fun _ => true) true n 3 [v1] = some y1 := by rw [← h1]; show _ = DataW.trod _ _ _ _ _ _ _ _ (List.take (Try.prog.cellsOf 3) _); rw [cells3]; rfl
    have t2 : DataW.trod enc Try.prog W 0 (fun _ => true) true n 3 [v2] = some y2 := by rw [← h2]; show _ = DataW.trod _ _ _ _ _ _ _ _ (List.take (Try.prog.cellsOf 3) _); rw [cells3]; rfl
    have t3 : DataW.trod enc Try.prog W 0 (fun _ => true) true n 3 [v3] = some y3 := by rw [← h3]; show _ = DataW.trod _ _ _ _ _ _ _ _ (List.take (Try.prog.cellsOf 3) _); rw [cells3]; rfl
    have t4 : DataW.trod enc Try.prog W 0 (fun _ => true) true n 5 [v4] = some y4 := by rw [← h4]; show _ = DataW.trod _ _ _ _ _ _ _ _ (List.take (Try.prog.cellsOf 5) _); rw [cells5]; rfl
    have t5 : DataW.trod enc Try.prog W 0 (fun _ => true) true n 9 [v5] = some y5 := by rw [← h5]; show _ = DataW.trod _ _ _ _ _ _ _ _ (List.take (Try.prog.cellsOf 9) _); rw [cells9]; rfl
    have t6 : DataW.trod enc Try.prog W 0 (fun _ => true) true n 32 [v6] = some y6 := by rw [← h6]; show _ = DataW.trod _ _ _ _ _ _ _ _ (List.take (Try.prog.cellsOf 32) _); rw [cells32]; rfl
    obtain ⟨z0, q0, _, _⟩ := DataW.trod_int Try.underlying3 t0
    obtain ⟨z1, q1, _, _⟩ := DataW.trod_int Try.underlying3 t1
    obtain ⟨z2, q2, _, _⟩ := DataW.trod_int Try.underlying3 t2
    obtain ⟨z3, q3, _, w3⟩ := DataW.trod_int Try.underlying3 t3
    obtain ⟨z4, q4, _, w4⟩ := DataW.trod_int Try.underlying5 t4
    obtain ⟨z5, q5, _, _⟩ := DataW.trod_string Try.underlying9 t5
    obtain ⟨A, l, cap, picks, q6, hl, hr, hp, hpn⟩ := open_picks t6
    obtain ⟨c, hc⟩ := u8_of w4
    cases q0; cases q1; cases q2; cases q3; cases q4; cases q5; cases q6
    subst hl hc
    exact ⟨⟨z0, z1, z2, z3, c, z5, A, cap, picks⟩, rfl, ⟨hr, hp, hpn, (i64_bounds w3).2⟩⟩

/-- an argument Act -/
theorem open_act {v : Value} {d : DataW H} {ps : List MemPlace} {b0 : Nat} {r : Reach} (hval : Value.okWide Try.prog W r b0 34 v) (h : DataW.Trod enc Try.prog W 0 (fun _ => true) true 34 v d ps) :
    ∃ X : Act0, v = X.val ∧ X.OK W W.heap.size := by
  obtain ⟨cs, rfl, hsz⟩ := okWide_struct Try.underlying34 hval
  obtain ⟨fuel, hf⟩ := h
  obtain ⟨X, hX, hok⟩ := open_act_cells hf
  refine ⟨X, ?_, hok⟩
  have : cs = X.cells.toArray := by
    apply Array.toList_inj.1
    simpa [Value.cells] using hX
  rw [this]
  rfl
/-- an argument []int -/
theorem open_ints_arg {v : Value} {d : DataW H} {ps : List MemPlace} {b0 : Nat} {r : Reach} (hval : Value.okWide Try.prog W r b0 32 v) (h : DataW.Trod enc Try.prog W 0 (fun _ => true) true 32 v d ps) :
    ∃ (A : Option Addr) (l cap : Nat) (picks : List Int), v = .slice A l cap ∧ l = picks.length ∧ Rd W W.heap.size A (ints picks) ∧ (∀ y ∈ picks, y ≤ 9223372036854775807) ∧ l ≤ 9223372036854775807 := by
  obtain ⟨a0, len, cap, rfl⟩ := okWide_slice Try.underlying32 hval
  obtain ⟨fuel, hf⟩ := h
  obtain ⟨A, l, cap', picks, hcs, hl, hr, hp, hpn⟩ := open_picks hf
  simp [Value.cells] at hcs
  obtain ⟨rfl, rfl, rfl⟩ := hcs
  exact ⟨_, _, _, picks, rfl, hl, hr, hp, hpn⟩

theorem cells_get {w : World} {a : Addr} {n : Nat} {cs : List Value} (h : w.cells? 0 a n = some cs) : cs.length = n ∧ ∀ j v, cs[j]? = some v → w.cell? (a.add j) = some v := by
  unfold World.cells? at h
  rw [if_pos (Nat.zero_le _)] at h
  refine ⟨by simpa using mapM_some_length h, fun j v hv => ?_⟩
  have hl : cs.length = n := by simpa using mapM_some_length h
  have hj : j < n := by rw [← hl]; exact (List.getElem?_eq_some_iff.1 hv).1
  have := mapM_some_get h j j (by simp [hj])
  rw [this, hv]
/-- an argument []Act -/
theorem open_acts {v : Value} {d : DataW H} {ps : List MemPlace} {b0 : Nat} {r : Reach} (hval : Value.okWide Try.prog W r b0 22 v) (h : DataW.Trod enc Try.prog W 0 (fun _ => true) true 22 v d ps) :
    ∃ (A : Option Addr) (n c : Nat) (XS : List Act0), v = .slice A n c ∧ n = XS.length ∧ n ≤ 9223372036854775807 ∧ (∀ X ∈ XS, X.OK W W.heap.size) ∧ Rd W W.heap.size A (XS.map Act0.cells).flatten := by
  obtain ⟨a0, len, cap, rfl⟩ := okWide_slice Try.underlying22 hval
  obtain ⟨fuel, hf⟩ := h
  rcases Go.Deep.open_slice Try.underlying22 hf with ⟨hcs, _⟩ | ⟨a, len', cap', m, n, D, Pl, hcs, _, hl, hm, hmm, _, hel⟩
  · simp [Value.cells] at hcs
    obtain ⟨rfl, rfl, rfl⟩ := hcs
    exact ⟨none, 0, 0, [], rfl, rfl, by omega, by simp, Rd.nil⟩
  · simp [Value.cells] at hcs
    obtain ⟨rfl, rfl, rfl⟩ := hcs
    simp only [if_true] at hmm
    subst hmm
    have hone : ∀ i, i < len → ∃ X : Act0, X.OK W W.heap.size ∧ ∀ j v, X.cells[j]? = some v → W.cell? ((a.add (i * 7)).add j) = some v := by
      intro i hi
      obtain ⟨cs', h1, h2⟩ := hel i (by omega)
      rw [cells34] at h1
      obtain ⟨X, rfl, hok⟩ := open_act_cells h2
      exact ⟨X, hok, (cells_get h1).2⟩
    have : Inhabited Act0 := ⟨⟨0, 0, 0, 0, 0, ⟨#[]⟩, none, 0, []⟩⟩
    obtain ⟨f, hfX⟩ := Go.Deep.choose_lt hone
    have hget : ∀ i, i < len → ((List.range len).map f)[i]? = some (f i) := fun i hi => by simp [hi]
    refine ⟨some a, len, _, (List.range len).map f, rfl, by simp, by unfold maxLen at hm; omega, ?_, ?_⟩
    · intro X hX
      obtain ⟨i, hi, rfl⟩ := List.mem_map.1 hX
      exact (hfX i (List.mem_range.1 hi)).1
    · have hR : ∀ r ∈ ((List.range len).map f).map Act0.cells, r.length = 7 := by
        intro r hr
        obtain ⟨X, _, rfl⟩ := List.mem_map.1 hr
        rfl
      intro hne
      have hpos : 0 < len := by
        rcases Nat.eq_zero_or_pos len with h0 | h0
        · subst h0; simp at hne
        · exact h0
      have h00 := (hfX 0 hpos).2 0 _ rfl
      obtain ⟨b, off, spot⟩ := a
      have hspot : spot = none := by
        have := World.cell?_spot h00
        simpa [Addr.add] using this
      subst hspot
      have hlt := World.block_lt_of_cell? W _ h00
      refine ⟨b, off, rfl, by simpa [Addr.add] using hlt, fun j u hu => ?_⟩
      have e : j = j / 7 * 7 + j % 7 := by omega
      have hm7 : j % 7 < 7 := Nat.mod_lt _ (by omega)
      rw [e, flat_get 7 _ _ _ hR hm7] at hu
      cases hq : (((List.range len).map f).map Act0.cells)[j / 7]? with
      | none => rw [hq] at hu; cases hu
      | some rr =>
        rw [hq] at hu
        obtain ⟨hlt7, rfl⟩ := List.getElem?_eq_some_iff.1 hq
        have hlt8 : j / 7 < len := by simpa using hlt7
        simp only [Option.bind_some, List.getElem_map, List.getElem_range] at hu
        have := (hfX (j / 7) hlt8).2 (j % 7) u hu
        rw [add_lit, add_lit, Nat.add_assoc, ← e] at this
        exact this
end
end Go.Proofs.Ytdkgpjmehdpliaa
