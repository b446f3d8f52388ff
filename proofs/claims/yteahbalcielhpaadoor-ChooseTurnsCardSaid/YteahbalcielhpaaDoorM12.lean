/-
  The laws' arguments: a message, as it reads.
-/
import Derived.Test.YteahbalcielhpaaDoorM10
import Derived.Test.YteahbalcielhpaaDoorM11
import Derived.ChangeSlices
import Derived.Deep.Slices
import Derived.OpenShut
import Derived.Deep.RegionHeld
import Derived.Laws.StructEq
import Derived.ChangeKeysEq
namespace Go.Proofs.YteahbalcielhpaaDoor
open Go.ChangeShapes Go.WideShapes Go.ChangeAt Go.RowKit
set_option maxRecDepth 10000

/-- structs, one behind the other -/
def rws {α : Type} (C : α → List Value) (l : List α) : List Value := (l.map C).flatten
theorem flatM_get (n : Nat) : ∀ (R : List (List Value)) (i j : Nat), (∀ r ∈ R, r.length = n) → j < n → R.flatten[i * n + j]? = R[i]?.bind (·[j]?)
  | [], i, j, _, _ => by simp
  | r :: R, 0, j, h, hj => by
    have := h r (by simp)
    simp only [Nat.zero_mul, Nat.zero_add, List.flatten_cons]
    rw [List.getElem?_append_left (by omega)]
    simp
  | r :: R, i + 1, j, h, hj => by
    have h1 := h r (by simp)
    rw [List.flatten_cons, List.getElem?_append_right (by rw [h1, Nat.add_mul]; omega), List.getElem?_cons_succ, ← flatM_get n R i j (fun r hr => h r (by simp [hr])) hj, h1]
    congr 1
    rw [Nat.add_mul]
    omega
theorem cellsM_get {w : World} {a : Addr} {n : Nat} {cs : List Value} (h : w.cells? 0 a n = some cs) : cs.length = n ∧ ∀ j v, cs[j]? = some v → w.cell? (a.add j) = some v := by
  unfold World.cells? at h
  rw [if_pos (Nat.zero_le _)] at h
  refine ⟨by simpa using mapM_some_length h, fun j v hv => ?_⟩
  have hl : cs.length = n := by simpa using mapM_some_length h
  have hj : j < n := by rw [← hl]; exact (List.getElem?_eq_some_iff.1 hv).1
  have := mapM_some_get h j j (by simp [hj])
  rw [this, hv]
/-- a message where it lies: its lists' places -/
structure Pl where
  A : Option Addr
  cA : Nat
  B : Option Addr
  cB : Nat
def Ms.cells (m : Ms) (p : Pl) : Array Value :=
  #[.int .i64 m.kind, .int .i64 m.frm, .int .i64 m.view, .int .i64 m.lv, .int .i64 m.opn, .int .i64 m.commit, .int .i64 m.client, .int .i64 m.session, .int .i64 m.request, .int .i64 m.oper, .int .i64 m.index, .int .i64 m.size,
    .int .i64 m.check.opn, .int .i64 m.check.view, .int .u64 (m.check.sum : Int), .int .u64 ((m.sums.getD 0 0 : Nat) : Int), .int .u64 ((m.sums.getD 1 0 : Nat) : Int), .int .u64 ((m.sums.getD 2 0 : Nat) : Int), .int .u64 ((m.sums.getD 3 0 : Nat) : Int), .int .u64 ((m.sums.getD 4 0 : Nat) : Int), .int .u64 ((m.sums.getD 5 0 : Nat) : Int),
    .int .i64 m.entry.view, .int .i64 m.entry.opn, .int .i64 m.entry.under, .int .u64 (m.entry.parent : Int), .int .i64 m.entry.client, .int .i64 m.entry.session, .int .i64 m.entry.request, .int .i64 m.entry.oper, .string m.entry.body,
    .slice p.A m.es.length p.cA, .slice p.B m.xs.length p.cB, .string m.body]
/-- its lists are there -/
structure PlOk (w : World) (D : Nat) (m : Ms) (p : Pl) : Prop where
  a : Rd w D p.A (rws (fun e : En => e.cells.toList) m.es)
  b : Rd w D p.B (rws (fun x : It => x.cells.toList) m.xs)
  la : m.es.length ≤ 9223372036854775807
  lb : m.xs.length ≤ 9223372036854775807
  ca : m.es.length ≤ p.cA
  cb : m.xs.length ≤ p.cB
section
variable {H : Type} {enc : TypeId × Value → H} {W : World}
theorem cellsMkE : Tryd.prog.cellsOf 27 = 3 := by kernel_rfl
theorem cells6E : Tryd.prog.cellsOf 28 = 6 := by kernel_rfl
theorem cellsStE : Tryd.prog.cellsOf 49 = 5 := by kernel_rfl
theorem cellsEnE : Tryd.prog.cellsOf 30 = 9 := by kernel_rfl
theorem cellsItE : Tryd.prog.cellsOf 51 = 15 := by kernel_rfl
theorem cellsSlE : Tryd.prog.cellsOf 31 = 1 := by kernel_rfl
theorem cellsSlI : Tryd.prog.cellsOf 32 = 1 := by kernel_rfl
theorem cellsMsE : Tryd.prog.cellsOf 34 = 33 := by kernel_rfl
/-- a list of structs -/
theorem open_rws {α : Type} [Inhabited α] (C : α → List Value) (n : Nat) (hn : 0 < n) (hC : ∀ x, (C x).length = n) (OK : α → Prop) (S T : TypeId) (hS : Tryd.prog.underlying S = some (.slice T)) (hT : Tryd.prog.cellsOf T = n)
    (hop : ∀ (fuel : Nat) (cs : List Value) (x : DataW H × List MemPlace), DataW.trod enc Tryd.prog W 0 (fun _ => true) true fuel T cs = some x → ∃ X, cs = C X ∧ OK X)
    {fuel : Nat} {v : Value} {x : DataW H × List MemPlace} (h : DataW.trod enc Tryd.prog W 0 (fun _ => true) true fuel S [v] = some x) :
    ∃ (A : Option Addr) (l c : Nat) (XS : List α), v = .slice A l c ∧ l = XS.length ∧ l ≤ 9223372036854775807 ∧ l ≤ c ∧ (∀ X ∈ XS, OK X) ∧ Rd W W.heap.size A (rws C XS) := by
  rcases Go.Deep.open_slice hS h with ⟨hcs, _⟩ | ⟨a, len, cap, m, k, D, P, hcs, _, hl, hm, hmm, _, hel⟩
  · cases hcs
    exact ⟨none, 0, 0, [], rfl, rfl, by omega, by omega, by simp, Rd.nil⟩
  · cases hcs
    simp only [if_true] at hmm
    subst hmm
    have hone : ∀ i, i < len → ∃ X : α, OK X ∧ ∀ j v, (C X)[j]? = some v → W.cell? ((a.add (i * n)).add j) = some v := by
      intro i hi
      obtain ⟨cs', h1, h2⟩ := hel i (by omega)
      rw [hT] at h1
      obtain ⟨X, rfl, hok⟩ := hop _ _ _ h2
      exact ⟨X, hok, (cellsM_get h1).2⟩
    obtain ⟨f, hfX⟩ := Go.Deep.choose_lt hone
    refine ⟨some a, len, _, (List.range len).map f, rfl, by simp, by unfold maxLen at hm; omega, hl, ?_, ?_⟩
    · intro X hX
      obtain ⟨i, hi, rfl⟩ := List.mem_map.1 hX
      exact (hfX i (List.mem_range.1 hi)).1
    · have hR : ∀ r ∈ ((List.range len).map f).map C, r.length = n := by
        intro r hr
        obtain ⟨X, _, rfl⟩ := List.mem_map.1 hr
        exact hC X
      intro hne
      have hpos : 0 < len := by
        rcases Nat.eq_zero_or_pos len with h0 | h0
        · subst h0; simp [rws] at hne
        · exact h0
      have h00 := (hfX 0 hpos).2 0 _ (List.getElem?_eq_getElem (by rw [hC]; exact hn))
      obtain ⟨b, off, spot⟩ := a
      have hspot : spot = none := by
        have := World.cell?_spot h00
        simpa [Addr.add] using this
      subst hspot
      have hlt := World.block_lt_of_cell? W _ h00
      refine ⟨b, off, rfl, by simpa [Addr.add] using hlt, fun j u hu => ?_⟩
      have e : j = j / n * n + j % n := by have := Nat.div_add_mod j n; rw [Nat.mul_comm] at this; omega
      have hm22 : j % n < n := Nat.mod_lt _ hn
      unfold rws at hu
      rw [e, flatM_get n _ _ _ hR hm22] at hu
      cases hq : (((List.range len).map f).map C)[j / n]? with
      | none => rw [hq] at hu; cases hu
      | some rr =>
        rw [hq] at hu
        obtain ⟨hltq, rfl⟩ := List.getElem?_eq_some_iff.1 hq
        have hlt8 : j / n < len := by simpa using hltq
        simp only [Option.bind_some, List.getElem_map, List.getElem_range] at hu
        have := (hfX (j / n) hlt8).2 (j % n) u hu
        rw [add_lit, add_lit, Nat.add_assoc, ← e] at this
        exact this
theorem open_markC {fuel : Nat} {cs : List Value} {x : DataW H × List MemPlace} (h : DataW.trod enc Tryd.prog W 0 (fun _ => true) true fuel 27 cs = some x) :
    ∃ X : Mk, cs = X.cells.toList ∧ X.fits := by
  obtain ⟨xs, n, _, _, hlen, hxs, hf⟩ := DataW.trod_struct Tryd.underlying27 h
  rw [cellsMkE] at hlen
  match cs, hlen with
  | [v0, v1, v2], _ =>
    have hx : ∀ i, i < 3 → ∃ y, xs[i]? = some y := fun i hi => ⟨_, List.getElem?_eq_getElem (by rw [hxs]; exact hi)⟩
    obtain ⟨y0, e0⟩ := hx 0 (by omega)
    have h0 := (hf 0 _ rfl).trans e0
    have t0 : DataW.trod enc Tryd.prog W 0 (fun _ => true) true n 3 [v0] = some y0 := by rw [← h0]; show _ = DataW.trod _ _ _ _ _ _ _ _ (List.take (Tryd.prog.cellsOf 3) _); rw [cellsIntE]; rfl
    obtain ⟨z0, q0, _, w0⟩ := DataW.trod_int Tryd.underlying3 t0
    obtain ⟨y1, e1⟩ := hx 1 (by omega)
    have h1 := (hf 1 _ rfl).trans e1
    have t1 : DataW.trod enc Tryd.prog W 0 (fun _ => true) true n 3 [v1] = some y1 := by rw [← h1]; show _ = DataW.trod _ _ _ _ _ _ _ _ (List.take (Tryd.prog.cellsOf 3) _); rw [cellsIntE]; rfl
    obtain ⟨z1, q1, _, w1⟩ := DataW.trod_int Tryd.underlying3 t1
    obtain ⟨y2, e2⟩ := hx 2 (by omega)
    have h2 := (hf 2 _ rfl).trans e2
    have t2 : DataW.trod enc Tryd.prog W 0 (fun _ => true) true n 25 [v2] = some y2 := by rw [← h2]; show _ = DataW.trod _ _ _ _ _ _ _ _ (List.take (Tryd.prog.cellsOf 25) _); rw [cellsU64E]; rfl
    obtain ⟨z2, q2, _, w2⟩ := DataW.trod_int Tryd.underlying25 t2
    obtain ⟨m2, rfl, hm2⟩ := u64_bounds w2
    cases q0; cases q1; cases q2
    exact ⟨⟨z0, z1, m2⟩, rfl, int_of_wfE w0, int_of_wfE w1, hm2⟩
theorem open_sixC {fuel : Nat} {a b c d e f : Value} {x : DataW H × List MemPlace} (h : DataW.trod enc Tryd.prog W 0 (fun _ => true) true fuel 28 [a, b, c, d, e, f] = some x) :
    ∃ (m0 m1 m2 m3 m4 m5 : Nat), a = .int .u64 (m0 : Int) ∧ b = .int .u64 (m1 : Int) ∧ c = .int .u64 (m2 : Int) ∧ d = .int .u64 (m3 : Int) ∧ e = .int .u64 (m4 : Int) ∧ f = .int .u64 (m5 : Int) ∧ (U64 m0 ∧ U64 m1 ∧ U64 m2) ∧ U64 m3 ∧ U64 m4 ∧ U64 m5 := by
  obtain ⟨xs, n, _, _, hlen, hxs, hf⟩ := DataW.trod_array Tryd.underlying28 h
  rw [cellsU64E] at hf
  have hone : ∀ i (v : Value), i < 6 → ([a, b, c, d, e, f].drop (i * 1)).take 1 = [v] → ∃ m : Nat, v = .int .u64 (m : Int) ∧ U64 m := by
    intro i v hi hv
    have h1 := hf i hi
    rw [hv, List.getElem?_eq_getElem (by omega)] at h1
    obtain ⟨z, q, _, w⟩ := DataW.trod_int Tryd.underlying25 h1
    obtain ⟨m, rfl, hm⟩ := u64_bounds w
    cases q
    exact ⟨m, rfl, hm⟩
  obtain ⟨m0, e0, w0⟩ := hone 0 a (by omega) rfl
  obtain ⟨m1, e1, w1⟩ := hone 1 b (by omega) rfl
  obtain ⟨m2, e2, w2⟩ := hone 2 c (by omega) rfl
  obtain ⟨m3, e3, w3⟩ := hone 3 d (by omega) rfl
  obtain ⟨m4, e4, w4⟩ := hone 4 e (by omega) rfl
  obtain ⟨m5, e5, w5⟩ := hone 5 f (by omega) rfl
  exact ⟨m0, m1, m2, m3, m4, m5, e0, e1, e2, e3, e4, e5, ⟨w0, w1, w2⟩, w3, w4, w5⟩
theorem open_stubC {fuel : Nat} {cs : List Value} {x : DataW H × List MemPlace} (h : DataW.trod enc Tryd.prog W 0 (fun _ => true) true fuel 49 cs = some x) :
    ∃ X : St, cs = X.cells.toList ∧ X.fits := by
  obtain ⟨xs, n, _, _, hlen, hxs, hf⟩ := DataW.trod_struct Tryd.underlying49 h
  rw [cellsStE] at hlen
  match cs, hlen with
  | [v0, v1, v2, v3, v4], _ =>
    have hx : ∀ i, i < 5 → ∃ y, xs[i]? = some y := fun i hi => ⟨_, List.getElem?_eq_getElem (by rw [hxs]; exact hi)⟩
    obtain ⟨y0, e0⟩ := hx 0 (by omega)
    have h0 := (hf 0 _ rfl).trans e0
    have t0 : DataW.trod enc Tryd.prog W 0 (fun _ => true) true n 3 [v0] = some y0 := by rw [← h0]; show _ = DataW.trod _ _ _ _ _ _ _ _ (List.take (Tryd.prog.cellsOf 3) _); rw [cellsIntE]; rfl
    obtain ⟨z0, q0, _, w0⟩ := DataW.trod_int Tryd.underlying3 t0
    obtain ⟨y1, e1⟩ := hx 1 (by omega)
    have h1 := (hf 1 _ rfl).trans e1
    have t1 : DataW.trod enc Tryd.prog W 0 (fun _ => true) true n 3 [v1] = some y1 := by rw [← h1]; show _ = DataW.trod _ _ _ _ _ _ _ _ (List.take (Tryd.prog.cellsOf 3) _); rw [cellsIntE]; rfl
    obtain ⟨z1, q1, _, w1⟩ := DataW.trod_int Tryd.underlying3 t1
    obtain ⟨y2, e2⟩ := hx 2 (by omega)
    have h2 := (hf 2 _ rfl).trans e2
    have t2 : DataW.trod enc Tryd.prog W 0 (fun _ => true) true n 3 [v2] = some y2 := by rw [← h2]; show _ = DataW.trod _ _ _ _ _ _ _ _ (List.take (Tryd.prog.cellsOf 3) _); rw [cellsIntE]; rfl
    obtain ⟨z2, q2, _, w2⟩ := DataW.trod_int Tryd.underlying3 t2
    obtain ⟨y3, e3⟩ := hx 3 (by omega)
    have h3 := (hf 3 _ rfl).trans e3
    have t3 : DataW.trod enc Tryd.prog W 0 (fun _ => true) true n 25 [v3] = some y3 := by rw [← h3]; show _ = DataW.trod _ _ _ _ _ _ _ _ (List.take (Tryd.prog.cellsOf 25) _); rw [cellsU64E]; rfl
    obtain ⟨z3, q3, _, w3⟩ := DataW.trod_int Tryd.underlying25 t3
    obtain ⟨m3, rfl, hm3⟩ := u64_bounds w3
    obtain ⟨y4, e4⟩ := hx 4 (by omega)
    have h4 := (hf 4 _ rfl).trans e4
    have t4 : DataW.trod enc Tryd.prog W 0 (fun _ => true) true n 25 [v4] = some y4 := by rw [← h4]; show _ = DataW.trod _ _ _ _ _ _ _ _ (List.take (Tryd.prog.cellsOf 25) _); rw [cellsU64E]; rfl
    obtain ⟨z4, q4, _, w4⟩ := DataW.trod_int Tryd.underlying25 t4
    obtain ⟨m4, rfl, hm4⟩ := u64_bounds w4
    cases q0; cases q1; cases q2; cases q3; cases q4
    exact ⟨⟨z0, z1, z2, m3, m4⟩, rfl, ⟨int_of_wfE w0, int_of_wfE w1, int_of_wfE w2⟩, hm3, hm4⟩
theorem open_entryC {fuel : Nat} {cs : List Value} {x : DataW H × List MemPlace} (h : DataW.trod enc Tryd.prog W 0 (fun _ => true) true fuel 30 cs = some x) :
    ∃ X : En, cs = X.cells.toList ∧ X.fits := by
  obtain ⟨xs, n, _, _, hlen, hxs, hf⟩ := DataW.trod_struct Tryd.underlying30 h
  rw [cellsEnE] at hlen
  match cs, hlen with
  | [v0, v1, v2, v3, v4, v5, v6, v7, v8], _ =>
    have hx : ∀ i, i < 9 → ∃ y, xs[i]? = some y := fun i hi => ⟨_, List.getElem?_eq_getElem (by rw [hxs]; exact hi)⟩
    obtain ⟨y0, e0⟩ := hx 0 (by omega)
    have h0 := (hf 0 _ rfl).trans e0
    have t0 : DataW.trod enc Tryd.prog W 0 (fun _ => true) true n 3 [v0] = some y0 := by rw [← h0]; show _ = DataW.trod _ _ _ _ _ _ _ _ (List.take (Tryd.prog.cellsOf 3) _); rw [cellsIntE]; rfl
    obtain ⟨z0, q0, _, w0⟩ := DataW.trod_int Tryd.underlying3 t0
    obtain ⟨y1, e1⟩ := hx 1 (by omega)
    have h1 := (hf 1 _ rfl).trans e1
    have t1 : DataW.trod enc Tryd.prog W 0 (fun _ => true) true n 3 [v1] = some y1 := by rw [← h1]; show _ = DataW.trod _ _ _ _ _ _ _ _ (List.take (Tryd.prog.cellsOf 3) _); rw [cellsIntE]; rfl
    obtain ⟨z1, q1, _, w1⟩ := DataW.trod_int Tryd.underlying3 t1
    obtain ⟨y2, e2⟩ := hx 2 (by omega)
    have h2 := (hf 2 _ rfl).trans e2
    have t2 : DataW.trod enc Tryd.prog W 0 (fun _ => true) true n 3 [v2] = some y2 := by rw [← h2]; show _ = DataW.trod _ _ _ _ _ _ _ _ (List.take (Tryd.prog.cellsOf 3) _); rw [cellsIntE]; rfl
    obtain ⟨z2, q2, _, w2⟩ := DataW.trod_int Tryd.underlying3 t2
    obtain ⟨y3, e3⟩ := hx 3 (by omega)
    have h3 := (hf 3 _ rfl).trans e3
    have t3 : DataW.trod enc Tryd.prog W 0 (fun _ => true) true n 25 [v3] = some y3 := by rw [← h3]; show _ = DataW.trod _ _ _ _ _ _ _ _ (List.take (Tryd.prog.cellsOf 25) _); rw [cellsU64E]; rfl
    obtain ⟨z3, q3, _, w3⟩ := DataW.trod_int Tryd.underlying25 t3
    obtain ⟨m3, rfl, hm3⟩ := u64_bounds w3
    obtain ⟨y4, e4⟩ := hx 4 (by omega)
    have h4 := (hf 4 _ rfl).trans e4
    have t4 : DataW.trod enc Tryd.prog W 0 (fun _ => true) true n 3 [v4] = some y4 := by rw [← h4]; show _ = DataW.trod _ _ _ _ _ _ _ _ (List.take (Tryd.prog.cellsOf 3) _); rw [cellsIntE]; rfl
    obtain ⟨z4, q4, _, w4⟩ := DataW.trod_int Tryd.underlying3 t4
    obtain ⟨y5, e5⟩ := hx 5 (by omega)
    have h5 := (hf 5 _ rfl).trans e5
    have t5 : DataW.trod enc Tryd.prog W 0 (fun _ => true) true n 3 [v5] = some y5 := by rw [← h5]; show _ = DataW.trod _ _ _ _ _ _ _ _ (List.take (Tryd.prog.cellsOf 3) _); rw [cellsIntE]; rfl
    obtain ⟨z5, q5, _, w5⟩ := DataW.trod_int Tryd.underlying3 t5
    obtain ⟨y6, e6⟩ := hx 6 (by omega)
    have h6 := (hf 6 _ rfl).trans e6
    have t6 : DataW.trod enc Tryd.prog W 0 (fun _ => true) true n 3 [v6] = some y6 := by rw [← h6]; show _ = DataW.trod _ _ _ _ _ _ _ _ (List.take (Tryd.prog.cellsOf 3) _); rw [cellsIntE]; rfl
    obtain ⟨z6, q6, _, w6⟩ := DataW.trod_int Tryd.underlying3 t6
    obtain ⟨y7, e7⟩ := hx 7 (by omega)
    have h7 := (hf 7 _ rfl).trans e7
    have t7 : DataW.trod enc Tryd.prog W 0 (fun _ => true) true n 3 [v7] = some y7 := by rw [← h7]; show _ = DataW.trod _ _ _ _ _ _ _ _ (List.take (Tryd.prog.cellsOf 3) _); rw [cellsIntE]; rfl
    obtain ⟨z7, q7, _, w7⟩ := DataW.trod_int Tryd.underlying3 t7
    obtain ⟨y8, e8⟩ := hx 8 (by omega)
    have h8 := (hf 8 _ rfl).trans e8
    have t8 : DataW.trod enc Tryd.prog W 0 (fun _ => true) true n 9 [v8] = some y8 := by rw [← h8]; show _ = DataW.trod _ _ _ _ _ _ _ _ (List.take (Tryd.prog.cellsOf 9) _); rw [cellsStrE]; rfl
    obtain ⟨s8, q8, _, w8⟩ := DataW.trod_string Tryd.underlying9 t8
    cases q0; cases q1; cases q2; cases q3; cases q4; cases q5; cases q6; cases q7
    cases q8
    exact ⟨⟨z0, z1, z2, m3, z4, z5, z6, z7, s8⟩, rfl, ⟨int_of_wfE w0, int_of_wfE w1, int_of_wfE w2, int_of_wfE w4⟩, ⟨int_of_wfE w5, int_of_wfE w6, int_of_wfE w7⟩, hm3⟩
theorem open_itemC {fuel : Nat} {cs : List Value} {x : DataW H × List MemPlace} (h : DataW.trod enc Tryd.prog W 0 (fun _ => true) true fuel 51 cs = some x) :
    ∃ X : It, cs = X.cells.toList ∧ X.fits := by
  obtain ⟨xs, n, _, _, hlen, hxs, hf⟩ := DataW.trod_struct Tryd.underlying51 h
  rw [cellsItE] at hlen
  match cs, hlen with
  | [v0, v1, v2, v3, v4, v5, v6, v7, v8, v9, v10, v11, v12, v13, v14], _ =>
    have hx : ∀ i, i < 3 → ∃ y, xs[i]? = some y := fun i hi => ⟨_, List.getElem?_eq_getElem (by rw [hxs]; exact hi)⟩
    obtain ⟨y0, e0⟩ := hx 0 (by omega)
    have h0 := (hf 0 _ rfl).trans e0
    have t0 : DataW.trod enc Tryd.prog W 0 (fun _ => true) true n 3 [v0] = some y0 := by rw [← h0]; show _ = DataW.trod _ _ _ _ _ _ _ _ (List.take (Tryd.prog.cellsOf 3) _); rw [cellsIntE]; rfl
    obtain ⟨z0, q0, _, w0⟩ := DataW.trod_int Tryd.underlying3 t0
    obtain ⟨y1, e1⟩ := hx 1 (by omega)
    have h1 := (hf 1 _ rfl).trans e1
    have t1 : DataW.trod enc Tryd.prog W 0 (fun _ => true) true n 49 [v1, v2, v3, v4, v5] = some y1 := by rw [← h1]; show _ = DataW.trod _ _ _ _ _ _ _ _ (List.take (Tryd.prog.cellsOf 49) _); rw [cellsStE]; rfl
    obtain ⟨y2, e2⟩ := hx 2 (by omega)
    have h2 := (hf 2 _ rfl).trans e2
    have t2 : DataW.trod enc Tryd.prog W 0 (fun _ => true) true n 30 [v6, v7, v8, v9, v10, v11, v12, v13, v14] = some y2 := by rw [← h2]; show _ = DataW.trod _ _ _ _ _ _ _ _ (List.take (Tryd.prog.cellsOf 30) _); rw [cellsEnE]; rfl
    obtain ⟨S, hS, hSf⟩ := open_stubC t1
    obtain ⟨E, hE, hEf⟩ := open_entryC t2
    cases q0
    refine ⟨⟨z0, S, E⟩, ?_, int_of_wfE w0, hSf, hEf⟩
    show _ = .int .i64 z0 :: (S.cells.toList ++ E.cells.toList)
    rw [← hS, ← hE]
    rfl
theorem open_msgC {fuel : Nat} {cs : List Value} {x : DataW H × List MemPlace} (h : DataW.trod enc Tryd.prog W 0 (fun _ => true) true fuel 34 cs = some x) :
    ∃ (X : Ms) (p : Pl), cs = (X.cells p).toList ∧ X.fits ∧ PlOk W W.heap.size X p := by
  obtain ⟨xs, n, _, _, hlen, hxs, hf⟩ := DataW.trod_struct Tryd.underlying34 h
  rw [cellsMsE] at hlen
  match cs, hlen with
  | v0 :: v1 :: v2 :: v3 :: v4 :: v5 :: v6 :: v7 :: v8 :: v9 :: v10 :: v11 :: v12 :: v13 :: v14 :: v15 :: v16 :: v17 :: v18 :: v19 :: v20 :: v21 :: v22 :: v23 :: v24 :: v25 :: v26 :: v27 :: v28 :: v29 :: v30 :: v31 :: v32 :: [], _ =>
    have hx : ∀ i, i < 18 → ∃ y, xs[i]? = some y := fun i hi => ⟨_, List.getElem?_eq_getElem (by rw [hxs]; exact hi)⟩
    obtain ⟨y0, e0⟩ := hx 0 (by omega)
    have h0 := (hf 0 _ rfl).trans e0
    have t0 : DataW.trod enc Tryd.prog W 0 (fun _ => true) true n 3 [v0] = some y0 := by rw [← h0]; show _ = DataW.trod _ _ _ _ _ _ _ _ (List.take (Tryd.prog.cellsOf 3) _); rw [cellsIntE]; rfl
    obtain ⟨z0, q0, _, w0⟩ := DataW.trod_int Tryd.underlying3 t0
    obtain ⟨y1, e1⟩ := hx 1 (by omega)
    have h1 := (hf 1 _ rfl).trans e1
    have t1 : DataW.trod enc Tryd.prog W 0 (fun _ => true) true n 3 [v1] = some y1 := by rw [← h1]; show _ = DataW.trod _ _ _ _ _ _ _ _ (List.take (Tryd.prog.cellsOf 3) _); rw [cellsIntE]; rfl
    obtain ⟨z1, q1, _, w1⟩ := DataW.trod_int Tryd.underlying3 t1
    obtain ⟨y2, e2⟩ := hx 2 (by omega)
    have h2 := (hf 2 _ rfl).trans e2
    have t2 : DataW.trod enc Tryd.prog W 0 (fun _ => true) true n 3 [v2] = some y2 := by rw [← h2]; show _ = DataW.trod _ _ _ _ _ _ _ _ (List.take (Tryd.prog.cellsOf 3) _); rw [cellsIntE]; rfl
    obtain ⟨z2, q2, _, w2⟩ := DataW.trod_int Tryd.underlying3 t2
    obtain ⟨y3, e3⟩ := hx 3 (by omega)
    have h3 := (hf 3 _ rfl).trans e3
    have t3 : DataW.trod enc Tryd.prog W 0 (fun _ => true) true n 3 [v3] = some y3 := by rw [← h3]; show _ = DataW.trod _ _ _ _ _ _ _ _ (List.take (Tryd.prog.cellsOf 3) _); rw [cellsIntE]; rfl
    obtain ⟨z3, q3, _, w3⟩ := DataW.trod_int Tryd.underlying3 t3
    obtain ⟨y4, e4⟩ := hx 4 (by omega)
    have h4 := (hf 4 _ rfl).trans e4
    have t4 : DataW.trod enc Tryd.prog W 0 (fun _ => true) true n 3 [v4] = some y4 := by rw [← h4]; show _ = DataW.trod _ _ _ _ _ _ _ _ (List.take (Tryd.prog.cellsOf 3) _); rw [cellsIntE]; rfl
    obtain ⟨z4, q4, _, w4⟩ := DataW.trod_int Tryd.underlying3 t4
    obtain ⟨y5, e5⟩ := hx 5 (by omega)
    have h5 := (hf 5 _ rfl).trans e5
    have t5 : DataW.trod enc Tryd.prog W 0 (fun _ => true) true n 3 [v5] = some y5 := by rw [← h5]; show _ = DataW.trod _ _ _ _ _ _ _ _ (List.take (Tryd.prog.cellsOf 3) _); rw [cellsIntE]; rfl
    obtain ⟨z5, q5, _, w5⟩ := DataW.trod_int Tryd.underlying3 t5
    obtain ⟨y6, e6⟩ := hx 6 (by omega)
    have h6 := (hf 6 _ rfl).trans e6
    have t6 : DataW.trod enc Tryd.prog W 0 (fun _ => true) true n 3 [v6] = some y6 := by rw [← h6]; show _ = DataW.trod _ _ _ _ _ _ _ _ (List.take (Tryd.prog.cellsOf 3) _); rw [cellsIntE]; rfl
    obtain ⟨z6, q6, _, w6⟩ := DataW.trod_int Tryd.underlying3 t6
    obtain ⟨y7, e7⟩ := hx 7 (by omega)
    have h7 := (hf 7 _ rfl).trans e7
    have t7 : DataW.trod enc Tryd.prog W 0 (fun _ => true) true n 3 [v7] = some y7 := by rw [← h7]; show _ = DataW.trod _ _ _ _ _ _ _ _ (List.take (Tryd.prog.cellsOf 3) _); rw [cellsIntE]; rfl
    obtain ⟨z7, q7, _, w7⟩ := DataW.trod_int Tryd.underlying3 t7
    obtain ⟨y8, e8⟩ := hx 8 (by omega)
    have h8 := (hf 8 _ rfl).trans e8
    have t8 : DataW.trod enc Tryd.prog W 0 (fun _ => true) true n 3 [v8] = some y8 := by rw [← h8]; show _ = DataW.trod _ _ _ _ _ _ _ _ (List.take (Tryd.prog.cellsOf 3) _); rw [cellsIntE]; rfl
    obtain ⟨z8, q8, _, w8⟩ := DataW.trod_int Tryd.underlying3 t8
    obtain ⟨y9, e9⟩ := hx 9 (by omega)
    have h9 := (hf 9 _ rfl).trans e9
    have t9 : DataW.trod enc Tryd.prog W 0 (fun _ => true) true n 3 [v9] = some y9 := by rw [← h9]; show _ = DataW.trod _ _ _ _ _ _ _ _ (List.take (Tryd.prog.cellsOf 3) _); rw [cellsIntE]; rfl
    obtain ⟨z9, q9, _, w9⟩ := DataW.trod_int Tryd.underlying3 t9
    obtain ⟨y10, e10⟩ := hx 10 (by omega)
    have h10 := (hf 10 _ rfl).trans e10
    have t10 : DataW.trod enc Tryd.prog W 0 (fun _ => true) true n 3 [v10] = some y10 := by rw [← h10]; show _ = DataW.trod _ _ _ _ _ _ _ _ (List.take (Tryd.prog.cellsOf 3) _); rw [cellsIntE]; rfl
    obtain ⟨z10, q10, _, w10⟩ := DataW.trod_int Tryd.underlying3 t10
    obtain ⟨y11, e11⟩ := hx 11 (by omega)
    have h11 := (hf 11 _ rfl).trans e11
    have t11 : DataW.trod enc Tryd.prog W 0 (fun _ => true) true n 3 [v11] = some y11 := by rw [← h11]; show _ = DataW.trod _ _ _ _ _ _ _ _ (List.take (Tryd.prog.cellsOf 3) _); rw [cellsIntE]; rfl
    obtain ⟨z11, q11, _, w11⟩ := DataW.trod_int Tryd.underlying3 t11
    obtain ⟨y12, e12⟩ := hx 12 (by omega)
    have h12 := (hf 12 _ rfl).trans e12
    have t12 : DataW.trod enc Tryd.prog W 0 (fun _ => true) true n 27 [v12, v13, v14] = some y12 := by rw [← h12]; show _ = DataW.trod _ _ _ _ _ _ _ _ (List.take (Tryd.prog.cellsOf 27) _); rw [cellsMkE]; rfl
    obtain ⟨y13, e13⟩ := hx 13 (by omega)
    have h13 := (hf 13 _ rfl).trans e13
    have t13 : DataW.trod enc Tryd.prog W 0 (fun _ => true) true n 28 [v15, v16, v17, v18, v19, v20] = some y13 := by rw [← h13]; show _ = DataW.trod _ _ _ _ _ _ _ _ (List.take (Tryd.prog.cellsOf 28) _); rw [cells6E]; rfl
    obtain ⟨y14, e14⟩ := hx 14 (by omega)
    have h14 := (hf 14 _ rfl).trans e14
    have t14 : DataW.trod enc Tryd.prog W 0 (fun _ => true) true n 30 [v21, v22, v23, v24, v25, v26, v27, v28, v29] = some y14 := by rw [← h14]; show _ = DataW.trod _ _ _ _ _ _ _ _ (List.take (Tryd.prog.cellsOf 30) _); rw [cellsEnE]; rfl
    obtain ⟨y15, e15⟩ := hx 15 (by omega)
    have h15 := (hf 15 _ rfl).trans e15
    have t15 : DataW.trod enc Tryd.prog W 0 (fun _ => true) true n 31 [v30] = some y15 := by rw [← h15]; show _ = DataW.trod _ _ _ _ _ _ _ _ (List.take (Tryd.prog.cellsOf 31) _); rw [cellsSlE]; rfl
    obtain ⟨y16, e16⟩ := hx 16 (by omega)
    have h16 := (hf 16 _ rfl).trans e16
    have t16 : DataW.trod enc Tryd.prog W 0 (fun _ => true) true n 32 [v31] = some y16 := by rw [← h16]; show _ = DataW.trod _ _ _ _ _ _ _ _ (List.take (Tryd.prog.cellsOf 32) _); rw [cellsSlI]; rfl
    obtain ⟨y17, e17⟩ := hx 17 (by omega)
    have h17 := (hf 17 _ rfl).trans e17
    have t17 : DataW.trod enc Tryd.prog W 0 (fun _ => true) true n 9 [v32] = some y17 := by rw [← h17]; show _ = DataW.trod _ _ _ _ _ _ _ _ (List.take (Tryd.prog.cellsOf 9) _); rw [cellsStrE]; rfl
    obtain ⟨s17, q17, _, w17⟩ := DataW.trod_string Tryd.underlying9 t17
    obtain ⟨K, hK, hKf⟩ := open_markC t12
    obtain ⟨m0, m1, m2, m3, m4, m5, g0, g1, g2, g3, g4, g5, ⟨u0, u1, u2⟩, u3, u4, u5⟩ := open_sixC t13
    obtain ⟨E, hE, hEf⟩ := open_entryC t14
    have : Inhabited En := ⟨en0⟩
    have : Inhabited It := ⟨it0⟩
    obtain ⟨A, l, c, ES, q15, hl, hl9, hlc, hES, hA⟩ := open_rws (fun e : En => e.cells.toList) 9 (by omega) (fun _ => rfl) En.fits _ 30 Tryd.underlying31 cellsEnE (fun _ _ _ h => open_entryC h) t15
    obtain ⟨B, l2, c2, XS, q16, hl2, hl29, hl2c, hXS, hB⟩ := open_rws (fun x : It => x.cells.toList) 15 (by omega) (fun _ => rfl) It.fits _ 51 Tryd.underlying32 cellsItE (fun _ _ _ h => open_itemC h) t16
    cases q0; cases q1; cases q2; cases q3; cases q4; cases q5; cases q6; cases q7; cases q8; cases q9; cases q10; cases q11
    cases q15; cases q16; cases q17
    subst hl hl2 g0 g1 g2 g3 g4 g5
    refine ⟨⟨z0, z1, z2, z3, z4, z5, z6, z7, z8, z9, z10, z11, K, [m0, m1, m2, m3, m4, m5], E, ES, XS, s17⟩, ⟨A, c, B, c2⟩, ?_, ⟨⟨int_of_wfE w0, int_of_wfE w1, int_of_wfE w2, int_of_wfE w3, int_of_wfE w4, int_of_wfE w5⟩, ⟨int_of_wfE w6, int_of_wfE w7, int_of_wfE w8, int_of_wfE w9, int_of_wfE w10, int_of_wfE w11⟩, hKf, ⟨rfl, ?_⟩, hEf, hES, hXS⟩, ⟨hA, hB, hl9, hl29, hlc, hl2c⟩⟩
    · show _ = .int .i64 z0 :: .int .i64 z1 :: .int .i64 z2 :: .int .i64 z3 :: .int .i64 z4 :: .int .i64 z5 :: .int .i64 z6 :: .int .i64 z7 :: .int .i64 z8 :: .int .i64 z9 :: .int .i64 z10 :: .int .i64 z11 :: (K.cells.toList ++ (.int .u64 (m0 : Int) :: .int .u64 (m1 : Int) :: .int .u64 (m2 : Int) :: .int .u64 (m3 : Int) :: .int .u64 (m4 : Int) :: .int .u64 (m5 : Int) :: (E.cells.toList ++ [.slice A ES.length c, .slice B XS.length c2, .string s17])))
      rw [← hK, ← hE]
      rfl
    · intro n hn
      simp only [List.mem_cons, List.not_mem_nil, or_false] at hn
      rcases hn with rfl | rfl | rfl | rfl | rfl | rfl <;> assumption
end
end Go.Proofs.YteahbalcielhpaaDoor
/-
  Items, entries, arrays of six, marks held against each other.
-/
namespace Go.Proofs.YteahbalcielhpaaDoor
open Go.RowKit
set_option maxRecDepth 10000

theorem eqI_any {P : Program} {W : World} (d : Nat) (e : TypeId) (n : Nat) (xs ys : Array Value) (i : Nat) (is : List Nat) (a b : Value) (r : Bool) (hx : (part e xs (i * n)).run P W = .ok a W) (hy : (part e ys (i * n)).run P W = .ok b W)
    (hr : (Op.equalIn d e a b).run P W = .ok r W) : (Op.eqItems d e n xs ys (i :: is)).run P W = if r = true then (Op.eqItems d e n xs ys is).run P W else .ok false W := by
  cases r <;> simp [Op.eqItems, hx, hy, hr]
theorem eqI_nil {P : Program} {W : World} (d : Nat) (e : TypeId) (n : Nat) (xs ys : Array Value) : (Op.eqItems d e n xs ys []).run P W = .ok true W := by simp [Op.eqItems]
theorem eqInt (W : World) (d : Nat) (t : TypeId) (k k' : IntKind) (a b : Int) (h : Tryd.prog.underlying t = some (.int k')) : (Op.equalIn (d + 1) t (.int k a) (.int k b)).run Tryd.prog W = .ok (decide (a = b)) W := by
  rw [run_equalIn_int W d t k k' a b h]
  rfl
theorem eqSix (W : World) (a0 a1 a2 a3 a4 a5 b0 b1 b2 b3 b4 b5 : Nat) : (Op.equalIn 10000 28 (.agg #[.int .u64 (a0 : Int), .int .u64 (a1 : Int), .int .u64 (a2 : Int), .int .u64 (a3 : Int), .int .u64 (a4 : Int), .int .u64 (a5 : Int)]) (.agg #[.int .u64 (b0 : Int), .int .u64 (b1 : Int), .int .u64 (b2 : Int), .int .u64 (b3 : Int), .int .u64 (b4 : Int), .int .u64 (b5 : Int)])).run Tryd.prog W = .ok (decide (a0 = b0 ∧ a1 = b1 ∧ a2 = b2 ∧ a3 = b3 ∧ a4 = b4 ∧ a5 = b5)) W := by
  rw [run_equalIn_array (i := (Tryd.prog.info? 25).get (by kernel_rfl)) W 9999 _ _ Tryd.underlying28 (by kernel_rfl)]
  rw [show List.range 6 = [0, 1, 2, 3, 4, 5] by decide, show Tryd.prog.cellsOf 25 = 1 by kernel_rfl]
  rw [eqI_any 9999 25 1 _ _ _ _ (.int .u64 (a0 : Int)) (.int .u64 (b0 : Int)) _ (by kernel_rfl) (by kernel_rfl) (eqInt W 9998 25 .u64 .u64 a0 b0 Tryd.underlying25)]
  rw [eqI_any 9999 25 1 _ _ _ _ (.int .u64 (a1 : Int)) (.int .u64 (b1 : Int)) _ (by kernel_rfl) (by kernel_rfl) (eqInt W 9998 25 .u64 .u64 a1 b1 Tryd.underlying25)]
  rw [eqI_any 9999 25 1 _ _ _ _ (.int .u64 (a2 : Int)) (.int .u64 (b2 : Int)) _ (by kernel_rfl) (by kernel_rfl) (eqInt W 9998 25 .u64 .u64 a2 b2 Tryd.underlying25)]
  rw [eqI_any 9999 25 1 _ _ _ _ (.int .u64 (a3 : Int)) (.int .u64 (b3 : Int)) _ (by kernel_rfl) (by kernel_rfl) (eqInt W 9998 25 .u64 .u64 a3 b3 Tryd.underlying25)]
  rw [eqI_any 9999 25 1 _ _ _ _ (.int .u64 (a4 : Int)) (.int .u64 (b4 : Int)) _ (by kernel_rfl) (by kernel_rfl) (eqInt W 9998 25 .u64 .u64 a4 b4 Tryd.underlying25)]
  rw [eqI_any 9999 25 1 _ _ _ _ (.int .u64 (a5 : Int)) (.int .u64 (b5 : Int)) _ (by kernel_rfl) (by kernel_rfl) (eqInt W 9998 25 .u64 .u64 a5 b5 Tryd.underlying25)]
  rw [eqI_nil]
  by_cases c0 : a0 = b0
  case neg => simp [c0]; try omega
  by_cases c1 : a1 = b1
  case neg => simp [c1]; try omega
  by_cases c2 : a2 = b2
  case neg => simp [c2]; try omega
  by_cases c3 : a3 = b3
  case neg => simp [c3]; try omega
  by_cases c4 : a4 = b4
  case neg => simp [c4]; try omega
  by_cases c5 : a5 = b5
  case neg => simp [c5]; try omega
  simp [*]
theorem eqIt2 (d : Nat) (x y : It) (W : World) (b : Bool) (hb : b = true ↔ x = y) : (Op.equalIn (d + 4) 51 (.agg x.cells) (.agg y.cells)).run Tryd.prog W = .ok b W := by
  rw [run_equalIn_struct W (d + 3) 51 x.cells y.cells (by kernel_rfl) (by kernel_rfl), itemFields]
  rw [eqF_int (P := Tryd.prog) (W := W) (d + 2) x.cells y.cells { name := "Kind", type := 3, offset := 0, embedded := false, tag := "", pkgPath := "", byteOffset := 0 } _ .i64 x.kind y.kind (by simp) (part_kind x W) (part_kind y W) Tryd.underlying3]
  have he := it_ext x y
  by_cases h : x.kind = y.kind
  · rw [if_pos h]
    rw [eqF_agg (P := Tryd.prog) (W := W) (d + 2) x.cells y.cells { name := "Stub", type := 49, offset := 1, embedded := false, tag := "", pkgPath := "", byteOffset := 8 } _ x.stub.cells y.stub.cells (decide (x.stub = y.stub)) (by simp) (part_stub x W) (part_stub y W) (eqSt (d + 1) x.stub y.stub W)]
    by_cases h2 : x.stub = y.stub
    · rw [if_pos (by simp [h2])]
      rw [eqF_agg (P := Tryd.prog) (W := W) (d + 2) x.cells y.cells { name := "Entry", type := 30, offset := 6, embedded := false, tag := "", pkgPath := "", byteOffset := 48 } _ x.entry.cells y.entry.cells (decide (x.entry = y.entry)) (by simp) (part_entry x W) (part_entry y W) (eqEn2 (d + 1) x.entry y.entry _ (by simp) W)]
      have hbb : b = decide (x.entry = y.entry) := by
        rw [Bool.eq_iff_iff, hb, he, decide_eq_true_iff]
        exact ⟨fun q => q.2.2, fun q => ⟨h, h2, q⟩⟩
      rw [hbb, eqF_nil]
      by_cases h3 : x.entry = y.entry <;> simp [h3]
    · have hbb : b = false := by
        cases b
        · rfl
        · exact absurd (he.1 (hb.1 rfl)).2.1 h2
      rw [hbb, if_neg (by simp [h2])]
  · have hbb : b = false := by
      cases b
      · rfl
      · exact absurd (he.1 (hb.1 rfl)).1 h
    rw [hbb, if_neg h]
theorem yields_nee2 {ops : Array Oper} {S : World → Prop} {o : Oper} {a : Act} (hw : Region.wanted o (yielded ops a.tmps) = true) (s t : En) (b : Bool) (hb : Hid (b = true ↔ s = t)) (x y : Operand) (ty : TypeId) (ho : o.op = .binOp .neq 30 x y ty)
    (hx : a.eval x = .agg s.cells) (hy : a.eval y = .agg t.cells) : YieldsIf Tryd.prog ops S o (.bool (!b)) a :=
  .inl ⟨hw, fun w _ => by
    have hEG := egEn
    have hE := eqEn2 9998 s t b hb.out w
    generalize s.cells = Z at *
    generalize t.cells = Y at *
    unfold execOp
    simp [ho, hx, hy, eqGuard, hEG, binOp, Op.equal, Op.maxDepth, hE, Result.andThen]⟩
/-- six numbers -/
def sixV (l : List Nat) : Array Value := #[.int .u64 ((l.getD 0 0 : Nat) : Int), .int .u64 ((l.getD 1 0 : Nat) : Int), .int .u64 ((l.getD 2 0 : Nat) : Int), .int .u64 ((l.getD 3 0 : Nat) : Int), .int .u64 ((l.getD 4 0 : Nat) : Int), .int .u64 ((l.getD 5 0 : Nat) : Int)]
theorem eg6 : Tryd.prog.eqGuardType Tryd.prog.depth 28 = false := by kernel_rfl
theorem eqSixV (W : World) (l k : List Nat) (hl : l.length = 6) (hk : k.length = 6) : (Op.equalIn 10000 28 (.agg (sixV l)) (.agg (sixV k))).run Tryd.prog W = .ok (decide (l = k)) W := by
  obtain ⟨a0, a1, a2, a3, a4, a5, rfl⟩ := list6 l hl
  obtain ⟨b0, b1, b2, b3, b4, b5, rfl⟩ := list6 k hk
  have h := eqSix W a0 a1 a2 a3 a4 a5 b0 b1 b2 b3 b4 b5
  simp only [List.cons.injEq, and_true]
  exact h
section
variable {ops : Array Oper} {rest : List Oper} {o : Oper} {a : Act} {w : World} {Q : Exit → Act → World → Prop}
theorem wpl_eq6 (hw : Region.wanted o (yielded ops a.tmps) = true) (s t : List Nat) (b : Bool) (x y : Operand) (ty : TypeId) (ho : o.op = .binOp .eql 28 x y ty)
    (hx : a.eval x = .agg (sixV s)) (hy : a.eval y = .agg (sixV t)) (hs : Hid (s.length = 6)) (ht : Hid (t.length = 6)) (hb : Hid (decide (s = t) = b)) (h : wpList Tryd.prog ops Q rest (a.put o.dst (.bool b)) w) : wpList Tryd.prog ops Q (o :: rest) a w := by
  refine BigFrame.wpList_want hw fun K hK => ?_
  have hEQ := hb.out ▸ eqSixV w s t hs.out ht.out
  have hEG := eg6
  generalize sixV s = Z at *
  generalize sixV t = Y at *
  unfold Oper.wp execOp
  simp [ho, hx, hy, eqGuard, hEG, binOp, Op.equal, Op.maxDepth, hEQ, Result.andThen]
  exact hK _ _ h
end
end Go.Proofs.YteahbalcielhpaaDoor
