/-
  The laws' argument: a list of acts, as it reads.
-/
import Derived.Test.YtafbeepacncooaaDoorP12
import Derived.Test.YtafbeepacncooaaDoorM11
import Derived.Test.YtafbeepacncooaaDoorM13
import Derived.ChangeSlices
import Derived.Deep.Slices
import Derived.OpenShut
namespace Go.Proofs.YtafbeepacncooaaDoor
open Go.ChangeShapes Go.WideShapes Go.ChangeAt Go.RowKit
set_option maxRecDepth 10000

/-- an act, its list of picks -/
structure Ac where
 x : ActJ
 A : Option Addr
 cap : Nat
def Ac.cells (y : Ac) : List Value := (actC y.x y.A y.x.picks.length y.cap).toList
theorem Ac.len (y : Ac) : y.cells.length = 15 := rfl
theorem cellsSl : Tryd.prog.cellsOf 30 = 1 := by kernel_rfl
theorem cellsAct : Tryd.prog.cellsOf 32 = 15 := by kernel_rfl
section
variable {H : Type} {enc : TypeId × Value → H} {W : World}
/-- an entry's cells -/
theorem open_entry_cells {fuel : Nat} {cs : List Value} {x : DataW H × List MemPlace} (h : DataW.trod enc Tryd.prog W 0 (fun _ => true) true fuel 28 cs = some x) :
  ∃ X : En, cs = X.cells.toList ∧ X.fits := by
 obtain ⟨xs, n, _, _, hlen, hxs, hf⟩ := DataW.trod_struct Tryd.underlying28 h
 rw [cellsEn] at hlen
 match cs, hlen with
 | [v0, v1, v2, v3, v4, v5, v6, v7, v8], _ =>
  have hx : ∀ i, i < 9 → ∃ y, xs[i]? = some y := fun i hi => ⟨_, List.getElem?_eq_getElem (by rw [hxs]; exact hi)⟩
  obtain ⟨y0, e0⟩ := hx 0 (by omega)
  have h0 := (hf 0 _ rfl).trans e0
  have t0 : DataW.trod enc Tryd.prog W 0 (fun _ => true) true n 3 [v0] = some y0 := by rw [← h0]; show _ = DataW.trod _ _ _ _ _ _ _ _ (List.take (Tryd.prog.cellsOf 3) _); rw [cellsIntE]; rfl
  obtain ⟨z0, q0, _, w0⟩ := DataW.trod_int Tryd.underlying3 t0
  obtain ⟨y1, e1⟩ := hx 1 (by omega)
  have h1 := (hf 1 _ rfl).trans e1
  have t1 : DataW.trod enc Tryd.prog W 0 (fun _ => true) true n 3 [v1] = some y1 := by rw [← h1]; show _ = DataW.trod _ _ _ _ _ _ _ _ (List.take (Tryd.prog.cellsOf 3) _); rw [cellsIntE]; rfl
  obtain ⟨z1, q1, _, w1⟩ := DataW.trod_int Tryd.underlying3 t1
  obtain ⟨y2, e2⟩ := hx 2 (by omega)
  have h2 := (hf 2 _ rfl).trans e2
  have t2 : DataW.trod enc Tryd.prog W 0 (fun _ => true) true n 3 [v2] = some y2 := by rw [← h2]; show _ = DataW.trod _ _ _ _ _ _ _ _ (List.take (Tryd.prog.cellsOf 3) _); rw [cellsIntE]; rfl
  obtain ⟨z2, q2, _, w2⟩ := DataW.trod_int Tryd.underlying3 t2
  obtain ⟨y3, e3⟩ := hx 3 (by omega)
  have h3 := (hf 3 _ rfl).trans e3
  have t3 : DataW.trod enc Tryd.prog W 0 (fun _ => true) true n 26 [v3] = some y3 := by rw [← h3]; show _ = DataW.trod _ _ _ _ _ _ _ _ (List.take (Tryd.prog.cellsOf 26) _); rw [cellsU64E]; rfl
  obtain ⟨z3, q3, _, w3⟩ := DataW.trod_int Tryd.underlying26 t3
  obtain ⟨m, rfl, hm⟩ := u64_bounds w3
  obtain ⟨y4, e4⟩ := hx 4 (by omega)
  have h4 := (hf 4 _ rfl).trans e4
  have t4 : DataW.trod enc Tryd.prog W 0 (fun _ => true) true n 3 [v4] = some y4 := by rw [← h4]; show _ = DataW.trod _ _ _ _ _ _ _ _ (List.take (Tryd.prog.cellsOf 3) _); rw [cellsIntE]; rfl
  obtain ⟨z4, q4, _, w4⟩ := DataW.trod_int Tryd.underlying3 t4
  obtain ⟨y5, e5⟩ := hx 5 (by omega)
  have h5 := (hf 5 _ rfl).trans e5
  have t5 : DataW.trod enc Tryd.prog W 0 (fun _ => true) true n 3 [v5] = some y5 := by rw [← h5]; show _ = DataW.trod _ _ _ _ _ _ _ _ (List.take (Tryd.prog.cellsOf 3) _); rw [cellsIntE]; rfl
  obtain ⟨z5, q5, _, w5⟩ := DataW.trod_int Tryd.underlying3 t5
  obtain ⟨y6, e6⟩ := hx 6 (by omega)
  have h6 := (hf 6 _ rfl).trans e6
  have t6 : DataW.trod enc Tryd.prog W 0 (fun _ => true) true n 3 [v6] = some y6 := by rw [← h6]; show _ = DataW.trod _ _ _ _ _ _ _ _ (List.take (Tryd.prog.cellsOf 3) _); rw [cellsIntE]; rfl
  obtain ⟨z6, q6, _, w6⟩ := DataW.trod_int Tryd.underlying3 t6
  obtain ⟨y7, e7⟩ := hx 7 (by omega)
  have h7 := (hf 7 _ rfl).trans e7
  have t7 : DataW.trod enc Tryd.prog W 0 (fun _ => true) true n 3 [v7] = some y7 := by rw [← h7]; show _ = DataW.trod _ _ _ _ _ _ _ _ (List.take (Tryd.prog.cellsOf 3) _); rw [cellsIntE]; rfl
  obtain ⟨z7, q7, _, w7⟩ := DataW.trod_int Tryd.underlying3 t7
  obtain ⟨y8, e8⟩ := hx 8 (by omega)
  have h8 := (hf 8 _ rfl).trans e8
  have t8 : DataW.trod enc Tryd.prog W 0 (fun _ => true) true n 9 [v8] = some y8 := by rw [← h8]; show _ = DataW.trod _ _ _ _ _ _ _ _ (List.take (Tryd.prog.cellsOf 9) _); rw [cellsStrE]; rfl
  obtain ⟨z8, q8, _, w8⟩ := DataW.trod_string Tryd.underlying9 t8
  cases q0; cases q1; cases q2; cases q3; cases q4; cases q5; cases q6; cases q7; cases q8
  exact ⟨⟨z0, z1, z2, m, z4, z5, z6, z7, z8⟩, rfl, ⟨int_of_wfE w0, int_of_wfE w1, int_of_wfE w2, int_of_wfE w4⟩, ⟨int_of_wfE w5, int_of_wfE w6, int_of_wfE w7⟩, hm⟩
/-- a []int's cell -/
theorem open_picks {fuel : Nat} {cs : List Value} {x : DataW H × List MemPlace} (h : DataW.trod enc Tryd.prog W 0 (fun _ => true) true fuel 30 cs = some x) :
  ∃ (A : Option Addr) (l cap : Nat) (picks : List Int), cs = [.slice A l cap] ∧ l = picks.length ∧ Rd W W.heap.size A (ints picks) ∧ (∀ y ∈ picks, y ≤ 9223372036854775807) ∧ l ≤ 9223372036854775807 := by
 rcases open_ints (k := .i64) Tryd.underlying30 Tryd.underlying3 cellsIntE h with ⟨rfl, _⟩ | ⟨a, len, cap, zs, rfl, _, hl, hm, hz, _, hcell, hwz⟩
 ·
  exact ⟨none, 0, 0, [], rfl, rfl, Rd.nil, by simp, by omega⟩
 ·
  simp only [if_true] at hz
  have hlen : (zs.take len).length = len := by simp; omega
  refine ⟨some a, len, cap, zs.take len, rfl, hlen.symm, ?_, ?_, ?_⟩
  ·
   intro hne
   have hpos : 0 < len := by
    rcases Nat.eq_zero_or_pos len with h0 | h0
    ·
     subst h0; simp [ints] at hne
    ·
     exact h0
   obtain ⟨b, off, spot⟩ := a
   have hspot : spot = none := by simpa [Addr.add] using World.cell?_spot (hcell 0 (by omega))
   subst hspot
   refine ⟨b, off, rfl, ?_, fun j u hu => ?_⟩
   ·
    have := World.block_lt_of_cell? W _ (hcell 0 (by omega))
    rw [add_plain] at this
    exact this
   ·
    simp only [ints, List.getElem?_map, Option.map_eq_some_iff] at hu
    obtain ⟨n, hn, rfl⟩ := hu
    rw [List.getElem?_take] at hn
    split at hn
    ·
     obtain ⟨hjz, rfl⟩ := List.getElem?_eq_some_iff.1 hn
     have h1 := hcell j hjz
     rw [add_plain] at h1
     rw [h1]
     simp [List.getD, List.getElem?_eq_getElem hjz]
    ·
     cases hn
  ·
   intro y hy
   exact (i64_bounds (hwz y (List.mem_of_mem_take hy))).2
  ·
   unfold maxLen at hm; omega
theorem open_act_cells {fuel : Nat} {cs : List Value} {x : DataW H × List MemPlace} (h : DataW.trod enc Tryd.prog W 0 (fun _ => true) true fuel 32 cs = some x) :
  ∃ X : Ac, cs = X.cells ∧ ActOk X.x W X.A X.x.picks.length := by
 obtain ⟨xs, n, _, _, hlen, hxs, hf⟩ := DataW.trod_struct Tryd.underlying32 h
 rw [cellsAct] at hlen
 match cs, hlen with
 | [v0, v1, v2, v3, v4, v5, v6, v7, v8, v9, v10, v11, v12, v13, v14], _ =>
  have hx : ∀ i, i < 7 → ∃ y, xs[i]? = some y := fun i hi => ⟨_, List.getElem?_eq_getElem (by rw [hxs]; exact hi)⟩
  obtain ⟨y0, e0⟩ := hx 0 (by omega)
  have h0 := (hf 0 _ rfl).trans e0
  have t0 : DataW.trod enc Tryd.prog W 0 (fun _ => true) true n 3 [v0] = some y0 := by rw [← h0]; show _ = DataW.trod _ _ _ _ _ _ _ _ (List.take (Tryd.prog.cellsOf 3) _); rw [cellsIntE]; rfl
  obtain ⟨y1, e1⟩ := hx 1 (by omega)
  have h1 := (hf 1 _ rfl).trans e1
  have t1 : DataW.trod enc Tryd.prog W 0 (fun _ => true) true n 28 [v1, v2, v3, v4, v5, v6, v7, v8, v9] = some y1 := by rw [← h1]; show _ = DataW.trod _ _ _ _ _ _ _ _ (List.take (Tryd.prog.cellsOf 28) _); rw [cellsEn]; rfl
  obtain ⟨y2, e2⟩ := hx 2 (by omega)
  have h2 := (hf 2 _ rfl).trans e2
  have t2 : DataW.trod enc Tryd.prog W 0 (fun _ => true) true n 3 [v10] = some y2 := by rw [← h2]; show _ = DataW.trod _ _ _ _ _ _ _ _ (List.take (Tryd.prog.cellsOf 3) _); rw [cellsIntE]; rfl
  obtain ⟨y3, e3⟩ := hx 3 (by omega)
  have h3 := (hf 3 _ rfl).trans e3
  have t3 : DataW.trod enc Tryd.prog W 0 (fun _ => true) true n 3 [v11] = some y3 := by rw [← h3]; show _ = DataW.trod _ _ _ _ _ _ _ _ (List.take (Tryd.prog.cellsOf 3) _); rw [cellsIntE]; rfl
  obtain ⟨y4, e4⟩ := hx 4 (by omega)
  have h4 := (hf 4 _ rfl).trans e4
  have t4 : DataW.trod enc Tryd.prog W 0 (fun _ => true) true n 3 [v12] = some y4 := by rw [← h4]; show _ = DataW.trod _ _ _ _ _ _ _ _ (List.take (Tryd.prog.cellsOf 3) _); rw [cellsIntE]; rfl
  obtain ⟨y5, e5⟩ := hx 5 (by omega)
  have h5 := (hf 5 _ rfl).trans e5
  have t5 : DataW.trod enc Tryd.prog W 0 (fun _ => true) true n 3 [v13] = some y5 := by rw [← h5]; show _ = DataW.trod _ _ _ _ _ _ _ _ (List.take (Tryd.prog.cellsOf 3) _); rw [cellsIntE]; rfl
  obtain ⟨y6, e6⟩ := hx 6 (by omega)
  have h6 := (hf 6 _ rfl).trans e6
  have t6 : DataW.trod enc Tryd.prog W 0 (fun _ => true) true n 30 [v14] = some y6 := by rw [← h6]; show _ = DataW.trod _ _ _ _ _ _ _ _ (List.take (Tryd.prog.cellsOf 30) _); rw [cellsSl]; rfl
  obtain ⟨z0, q0, _, w0⟩ := DataW.trod_int Tryd.underlying3 t0
  obtain ⟨z2, q2, _, w2⟩ := DataW.trod_int Tryd.underlying3 t2
  obtain ⟨z3, q3, _, w3⟩ := DataW.trod_int Tryd.underlying3 t3
  obtain ⟨z4, q4, _, w4⟩ := DataW.trod_int Tryd.underlying3 t4
  obtain ⟨z5, q5, _, w5⟩ := DataW.trod_int Tryd.underlying3 t5
  obtain ⟨X, hX, hXf⟩ := open_entry_cells t1
  obtain ⟨A, l, cap, picks, q6, hl, hr, hp, hpn⟩ := open_picks t6
  cases q0; cases q2; cases q3; cases q4; cases q5; cases q6
  subst hl
  refine ⟨⟨⟨z0, X, z2, z3, z4, z5, picks⟩, A, cap⟩, ?_, ⟨hXf, (i64_bounds w2).2, rfl, hr, hp, hpn⟩⟩
  show _ = .int .i64 z0 :: (X.cells.toList ++ [.int .i64 z2, .int .i64 z3, .int .i64 z4, .int .i64 z5, .slice A picks.length cap])
  rw [← hX]
  rfl
theorem cells_get {w : World} {a : Addr} {n : Nat} {cs : List Value} (h : w.cells? 0 a n = some cs) : cs.length = n ∧ ∀ j v, cs[j]? = some v → w.cell? (a.add j) = some v := by
 unfold World.cells? at h
 rw [if_pos (Nat.zero_le _)] at h
 refine ⟨by simpa using mapM_some_length h, fun j v hv => ?_⟩
 have hl : cs.length = n := by simpa using mapM_some_length h
 have hj : j < n := by rw [← hl]; exact (List.getElem?_eq_some_iff.1 hv).1
 have := mapM_some_get h j j (by simp [hj])
 rw [this, hv]
/-- an argument []Act -/
theorem open_acts13 {v : Value} {d : DataW H} {ps : List MemPlace} {b0 : Nat} {r : Reach} (hval : Value.okWide Tryd.prog W r b0 22 v) (h : DataW.Trod enc Tryd.prog W 0 (fun _ => true) true 22 v d ps) :
  ∃ (A : Option Addr) (n c : Nat) (XS : List Ac), v = .slice A n c ∧ n = XS.length ∧ n ≤ 9223372036854775807 ∧ (∀ X ∈ XS, ActOk X.x W X.A X.x.picks.length) ∧ Rd W W.heap.size A (XS.map Ac.cells).flatten := by
 obtain ⟨a0, len, cap, rfl⟩ := okWide_slice Tryd.underlying22 hval
 obtain ⟨fuel, hf⟩ := h
 rcases Go.Deep.open_slice Tryd.underlying22 hf with ⟨hcs, _⟩ | ⟨a, len', cap', m, n, D, Pl, hcs, _, hl, hm, hmm, _, hel⟩
 ·
  simp [Value.cells] at hcs
  obtain ⟨rfl, rfl, rfl⟩ := hcs
  exact ⟨none, 0, 0, [], rfl, rfl, by omega, by simp, Rd.nil⟩
 ·
  simp [Value.cells] at hcs
  obtain ⟨rfl, rfl, rfl⟩ := hcs
  simp only [if_true] at hmm
  subst hmm
  have hone : ∀ i, i < len → ∃ X : Ac, ActOk X.x W X.A X.x.picks.length ∧ ∀ j v, X.cells[j]? = some v → W.cell? ((a.add (i * 15)).add j) = some v := by
   intro i hi
   obtain ⟨cs', h1, h2⟩ := hel i (by omega)
   rw [cellsAct] at h1
   obtain ⟨X, rfl, hok⟩ := open_act_cells h2
   exact ⟨X, hok, (cells_get h1).2⟩
  have : Inhabited Ac := ⟨⟨⟨0, en0, 0, 0, 0, 0, []⟩, none, 0⟩⟩
  obtain ⟨f, hfX⟩ := Go.Deep.choose_lt hone
  have hget : ∀ i, i < len → ((List.range len).map f)[i]? = some (f i) := fun i hi => by simp [hi]
  refine ⟨some a, len, _, (List.range len).map f, rfl, by simp, by unfold maxLen at hm; omega, ?_, ?_⟩
  ·
   intro X hX
   obtain ⟨i, hi, rfl⟩ := List.mem_map.1 hX
   exact (hfX i (List.mem_range.1 hi)).1
  ·
   have hR : ∀ r ∈ ((List.range len).map f).map Ac.cells, r.length = 15 := by
    intro r hr
    obtain ⟨X, _, rfl⟩ := List.mem_map.1 hr
    rfl
   intro hne
   have hpos : 0 < len := by
    rcases Nat.eq_zero_or_pos len with h0 | h0
    ·
     subst h0; simp at hne
    ·
     exact h0
   have h00 := (hfX 0 hpos).2 0 _ rfl
   obtain ⟨b, off, spot⟩ := a
   have hspot : spot = none := by
    have := World.cell?_spot h00
    simpa [Addr.add] using this
   subst hspot
   have hlt := World.block_lt_of_cell? W _ h00
   refine ⟨b, off, rfl, by simpa [Addr.add] using hlt, fun j u hu => ?_⟩
   have e : j = j / 15 * 15 + j % 15 := by omega
   have hm15 : j % 15 < 15 := Nat.mod_lt _ (by omega)
   rw [e, flat_get 15 _ _ _ hR hm15] at hu
   cases hq : (((List.range len).map f).map Ac.cells)[j / 15]? with
   | none => rw [hq] at hu; cases hu
   | some rr =>
    rw [hq] at hu
    obtain ⟨hltq, rfl⟩ := List.getElem?_eq_some_iff.1 hq
    have hlt8 : j / 15 < len := by simpa using hltq
    simp only [Option.bind_some, List.getElem_map, List.getElem_range] at hu
    have := (hfX (j / 15) hlt8).2 (j % 15) u hu
    rw [add_lit, add_lit, Nat.add_assoc, ← e] at this
    exact this
end
end Go.Proofs.YtafbeepacncooaaDoor
