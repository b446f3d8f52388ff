/-
  The law's list of acts, as it reads.
-/
import Derived.Test.YtogchfpecbmocaaM20
namespace Go.Proofs.Ytogchfpecbmocaa
open Go.ChangeShapes Go.WideShapes Go.ChangeAt Go.RowKit
set_option maxRecDepth 10000

/-- an act -/
structure Ac where
  kind : Int
  s : Su
  i : Int
  at_ : Int
  n : Int
  A : Option Addr
  cap : Nat
  picks : List Int
def Ac.cells (x : Ac) : List Value := .int .i64 x.kind :: (x.s.cells.toList ++ [.int .i64 x.i, .int .i64 x.at_, .int .i64 x.n, .slice x.A x.picks.length x.cap])
theorem Ac.len (x : Ac) : x.cells.length = 22 := rfl
structure Ac.OK (w : World) (D : Nat) (x : Ac) : Prop where
  rd : Rd w D x.A (ints x.picks)
  p : ∀ y ∈ x.picks, y ≤ 9223372036854775807
  pn : x.picks.length ≤ 9223372036854775807
  n : x.n ≤ 9223372036854775807
  fits : x.s.fits
section
variable {H : Type} {enc : TypeId × Value → H} {W : World}
theorem cellsAct : Try.prog.cellsOf 46 = 22 := by kernel_rfl
theorem open_act_cells {fuel : Nat} {cs : List Value} {x : DataW H × List MemPlace} (h : DataW.trod enc Try.prog W 0 (fun _ => true) true fuel 46 cs = some x) :
    ∃ X : Ac, cs = X.cells ∧ X.OK W W.heap.size := by
  obtain ⟨xs, n, _, _, hlen, hxs, hf⟩ := DataW.trod_struct Try.underlying46 h
  rw [cellsAct] at hlen
  match cs, hlen with
  | [v0, v1, v2, v3, v4, v5, v6, v7, v8, v9, v10, v11, v12, v13, v14, v15, v16, v17, v18, v19, v20, v21], _ =>
    have hx : ∀ i, i < 6 → ∃ y, xs[i]? = some y := fun i hi => ⟨_, List.getElem?_eq_getElem (by rw [hxs]; exact hi)⟩
    obtain ⟨y0, e0⟩ := hx 0 (by omega)
    have h0 := (hf 0 _ rfl).trans e0
    have t0 : DataW.trod enc Try.prog W 0 (fun _ => true) true n 3 [v0] = some y0 := by rw [← h0]; show _ = DataW.trod _ _ _ _ _ _ _ _ (List.take (Try.prog.cellsOf 3) _); rw [cellsIntE]; rfl
    obtain ⟨y1, e1⟩ := hx 1 (by omega)
    have h1 := (hf 1 _ rfl).trans e1
    have t1 : DataW.trod enc Try.prog W 0 (fun _ => true) true n 27 [v1, v2, v3, v4, v5, v6, v7, v8, v9, v10, v11, v12, v13, v14, v15, v16, v17] = some y1 := by rw [← h1]; show _ = DataW.trod _ _ _ _ _ _ _ _ (List.take (Try.prog.cellsOf 27) _); rw [cellsSu]; rfl
    obtain ⟨y2, e2⟩ := hx 2 (by omega)
    have h2 := (hf 2 _ rfl).trans e2
    have t2 : DataW.trod enc Try.prog W 0 (fun _ => true) true n 3 [v18] = some y2 := by rw [← h2]; show _ = DataW.trod _ _ _ _ _ _ _ _ (List.take (Try.prog.cellsOf 3) _); rw [cellsIntE]; rfl
    obtain ⟨y3, e3⟩ := hx 3 (by omega)
    have h3 := (hf 3 _ rfl).trans e3
    have t3 : DataW.trod enc Try.prog W 0 (fun _ => true) true n 3 [v19] = some y3 := by rw [← h3]; show _ = DataW.trod _ _ _ _ _ _ _ _ (List.take (Try.prog.cellsOf 3) _); rw [cellsIntE]; rfl
    obtain ⟨y4, e4⟩ := hx 4 (by omega)
    have h4 := (hf 4 _ rfl).trans e4
    have t4 : DataW.trod enc Try.prog W 0 (fun _ => true) true n 3 [v20] = some y4 := by rw [← h4]; show _ = DataW.trod _ _ _ _ _ _ _ _ (List.take (Try.prog.cellsOf 3) _); rw [cellsIntE]; rfl
    obtain ⟨y5, e5⟩ := hx 5 (by omega)
    have h5 := (hf 5 _ rfl).trans e5
    have t5 : DataW.trod enc Try.prog W 0 (fun _ => true) true n 44 [v21] = some y5 := by rw [← h5]; show _ = DataW.trod _ _ _ _ _ _ _ _ (List.take (Try.prog.cellsOf 44) _); rw [cellsSl]; rfl
    obtain ⟨z0, q0, _, w0⟩ := DataW.trod_int Try.underlying3 t0
    obtain ⟨z2, q2, _, w2⟩ := DataW.trod_int Try.underlying3 t2
    obtain ⟨z3, q3, _, w3⟩ := DataW.trod_int Try.underlying3 t3
    obtain ⟨z4, q4, _, w4⟩ := DataW.trod_int Try.underlying3 t4
    obtain ⟨S, hS, hSf⟩ := open_super_cells t1
    obtain ⟨A, l, cap, picks, q6, hl, hr, hp, hpn⟩ := open_picks t5
    cases q0; cases q2; cases q3; cases q4; cases q6
    subst hl
    refine ⟨⟨z0, S, z2, z3, z4, A, cap, picks⟩, ?_, ⟨hr, hp, hpn, (i64_bounds w4).2, hSf⟩⟩
    show _ = .int .i64 z0 :: (S.cells.toList ++ _)
    rw [← hS]
    rfl
theorem cells_get {w : World} {a : Addr} {n : Nat} {cs : List Value} (h : w.cells? 0 a n = some cs) : cs.length = n ∧ ∀ j v, cs[j]? = some v → w.cell? (a.add j) = some v := by
  unfold World.cells? at h
  rw [if_pos (Nat.zero_le _)] at h
  refine ⟨by simpa using mapM_some_length h, fun j v hv => ?_⟩
  have hl : cs.length = n := by simpa using mapM_some_length h
  have hj : j < n := by rw [← hl]; exact (List.getElem?_eq_some_iff.1 hv).1
  have := mapM_some_get h j j (by simp [hj])
  rw [this, hv]
/-- an argument []Act -/
theorem open_acts {v : Value} {d : DataW H} {ps : List MemPlace} {b0 : Nat} {r : Reach} (hval : Value.okWide Try.prog W r b0 37 v) (h : DataW.Trod enc Try.prog W 0 (fun _ => true) true 37 v d ps) :
    ∃ (A : Option Addr) (n c : Nat) (XS : List Ac), v = .slice A n c ∧ n = XS.length ∧ n ≤ 9223372036854775807 ∧ (∀ X ∈ XS, X.OK W W.heap.size) ∧ Rd W W.heap.size A (XS.map Ac.cells).flatten := by
  obtain ⟨a0, len, cap, rfl⟩ := okWide_slice Try.underlying37 hval
  obtain ⟨fuel, hf⟩ := h
  rcases Go.Deep.open_slice Try.underlying37 hf with ⟨hcs, _⟩ | ⟨a, len', cap', m, n, D, Pl, hcs, _, hl, hm, hmm, _, hel⟩
  · simp [Value.cells] at hcs
    obtain ⟨rfl, rfl, rfl⟩ := hcs
    exact ⟨none, 0, 0, [], rfl, rfl, by omega, by simp, Rd.nil⟩
  · simp [Value.cells] at hcs
    obtain ⟨rfl, rfl, rfl⟩ := hcs
    simp only [if_true] at hmm
    subst hmm
    have hone : ∀ i, i < len → ∃ X : Ac, X.OK W W.heap.size ∧ ∀ j v, X.cells[j]? = some v → W.cell? ((a.add (i * 22)).add j) = some v := by
      intro i hi
      obtain ⟨cs', h1, h2⟩ := hel i (by omega)
      rw [cellsAct] at h1
      obtain ⟨X, rfl, hok⟩ := open_act_cells h2
      exact ⟨X, hok, (cells_get h1).2⟩
    have : Inhabited Ac := ⟨⟨0, su0, 0, 0, 0, none, 0, []⟩⟩
    obtain ⟨f, hfX⟩ := Go.Deep.choose_lt hone
    have hget : ∀ i, i < len → ((List.range len).map f)[i]? = some (f i) := fun i hi => by simp [hi]
    refine ⟨some a, len, _, (List.range len).map f, rfl, by simp, by unfold maxLen at hm; omega, ?_, ?_⟩
    · intro X hX
      obtain ⟨i, hi, rfl⟩ := List.mem_map.1 hX
      exact (hfX i (List.mem_range.1 hi)).1
    · have hR : ∀ r ∈ ((List.range len).map f).map Ac.cells, r.length = 22 := by
        intro r hr
        obtain ⟨X, _, rfl⟩ := List.mem_map.1 hr
        rfl
      intro hne
      have hpos : 0 < len := by
        rcases Nat.eq_zero_or_pos len with h0 | h0
        · subst h0; simp at hne
        · exact h0
      have h00 := (hfX 0 hpos).2 0 _ rfl
      obtain ⟨b, off, spot⟩ := a
      have hspot : spot = none := by
        have := World.cell?_spot h00
        simpa [Addr.add] using this
      subst hspot
      have hlt := World.block_lt_of_cell? W _ h00
      refine ⟨b, off, rfl, by simpa [Addr.add] using hlt, fun j u hu => ?_⟩
      have e : j = j / 22 * 22 + j % 22 := by omega
      have hm22 : j % 22 < 22 := Nat.mod_lt _ (by omega)
      rw [e, flat_get 22 _ _ _ hR hm22] at hu
      cases hq : (((List.range len).map f).map Ac.cells)[j / 22]? with
      | none => rw [hq] at hu; cases hu
      | some rr =>
        rw [hq] at hu
        obtain ⟨hltq, rfl⟩ := List.getElem?_eq_some_iff.1 hq
        have hlt8 : j / 22 < len := by simpa using hltq
        simp only [Option.bind_some, List.getElem_map, List.getElem_range] at hu
        have := (hfX (j / 22) hlt8).2 (j % 22) u hu
        rw [add_lit, add_lit, Nat.add_assoc, ← e] at this
        exact this
end
end Go.Proofs.Ytogchfpecbmocaa
