/-
  The laws' arguments: a superblock, four ints, a list of picks, as they read.
-/
import Derived.Test.YtogchfpecbmocaaM02
import Derived.Test.YtogchfpecbmocaaM08
import Derived.Test.YtogchfpecbmocaaM15
import Derived.ChangeSlices
import Derived.Deep.Slices
import Derived.OpenShut
namespace Go.Proofs.Ytogchfpecbmocaa
open Go.ChangeShapes Go.WideShapes Go.ChangeAt Go.RowKit
set_option maxRecDepth 10000

section
variable {H : Type} {enc : TypeId × Value → H} {W : World}
theorem cellsIntE : Try.prog.cellsOf 3 = 1 := by kernel_rfl
theorem cellsU64E : Try.prog.cellsOf 22 = 1 := by kernel_rfl
theorem cellsMk : Try.prog.cellsOf 24 = 3 := by kernel_rfl
theorem cells6 : Try.prog.cellsOf 25 = 6 := by kernel_rfl
theorem cellsSl : Try.prog.cellsOf 44 = 1 := by kernel_rfl
theorem cellsSu : Try.prog.cellsOf 27 = 17 := by kernel_rfl
theorem cells4 : Try.prog.cellsOf 66 = 4 := by kernel_rfl
theorem int_of_wfE {n : Int} (h : (Lit.int .i64 n).wf = true) : In64 n := i64_bounds h
theorem open_mark_cells {fuel : Nat} {a b c : Value} {x : DataW H × List MemPlace} (h : DataW.trod enc Try.prog W 0 (fun _ => true) true fuel 24 [a, b, c] = some x) :
    ∃ (p q : Int) (m : Nat), a = .int .i64 p ∧ b = .int .i64 q ∧ c = .int .u64 (m : Int) ∧ In64 p ∧ In64 q ∧ U64 m := by
  obtain ⟨xs, n, _, _, hlen, hxs, hf⟩ := DataW.trod_struct Try.underlying24 h
  have hx : ∀ i, i < 3 → ∃ y, xs[i]? = some y := fun i hi => ⟨_, List.getElem?_eq_getElem (by rw [hxs]; exact hi)⟩
  · skip
    obtain ⟨y0, e0⟩ := hx 0 (by omega)
    have h0 := (hf 0 _ rfl).trans e0
    have t0 : DataW.trod enc Try.prog W 0 (fun _ => true) true n 3 [a] = some y0 := by rw [← h0]; show _ = DataW.trod _ _ _ _ _ _ _ _ (List.take (Try.prog.cellsOf 3) _); rw [cellsIntE]; rfl
    obtain ⟨y1, e1⟩ := hx 1 (by omega)
    have h1 := (hf 1 _ rfl).trans e1
    have t1 : DataW.trod enc Try.prog W 0 (fun _ => true) true n 3 [b] = some y1 := by rw [← h1]; show _ = DataW.trod _ _ _ _ _ _ _ _ (List.take (Try.prog.cellsOf 3) _); rw [cellsIntE]; rfl
    obtain ⟨y2, e2⟩ := hx 2 (by omega)
    have h2 := (hf 2 _ rfl).trans e2
    have t2 : DataW.trod enc Try.prog W 0 (fun _ => true) true n 22 [c] = some y2 := by rw [← h2]; show _ = DataW.trod _ _ _ _ _ _ _ _ (List.take (Try.prog.cellsOf 22) _); rw [cellsU64E]; rfl
    obtain ⟨z0, q0, _, w0⟩ := DataW.trod_int Try.underlying3 t0
    obtain ⟨z1, q1, _, w1⟩ := DataW.trod_int Try.underlying3 t1
    obtain ⟨z2, q2, _, w2⟩ := DataW.trod_int Try.underlying22 t2
    obtain ⟨m, rfl, hm⟩ := u64_bounds w2
    cases q0; cases q1; cases q2
    exact ⟨z0, z1, m, rfl, rfl, rfl, int_of_wfE w0, int_of_wfE w1, hm⟩
theorem open_six_cells {fuel : Nat} {a b c d e f : Value} {x : DataW H × List MemPlace} (h : DataW.trod enc Try.prog W 0 (fun _ => true) true fuel 25 [a, b, c, d, e, f] = some x) :
    ∃ (m0 m1 m2 m3 m4 m5 : Nat), a = .int .u64 (m0 : Int) ∧ b = .int .u64 (m1 : Int) ∧ c = .int .u64 (m2 : Int) ∧ d = .int .u64 (m3 : Int) ∧ e = .int .u64 (m4 : Int) ∧ f = .int .u64 (m5 : Int) ∧ (U64 m0 ∧ U64 m1 ∧ U64 m2) ∧ U64 m3 ∧ U64 m4 ∧ U64 m5 := by
  obtain ⟨xs, n, _, _, hlen, hxs, hf⟩ := DataW.trod_array Try.underlying25 h
  rw [cellsU64E] at hf
  have hone : ∀ i (v : Value), i < 6 → ([a, b, c, d, e, f].drop (i * 1)).take 1 = [v] → ∃ m : Nat, v = .int .u64 (m : Int) ∧ U64 m := by
    intro i v hi hv
    have h1 := hf i hi
    rw [hv, List.getElem?_eq_getElem (by omega)] at h1
    obtain ⟨z, q, _, w⟩ := DataW.trod_int Try.underlying22 h1
    obtain ⟨m, rfl, hm⟩ := u64_bounds w
    cases q
    exact ⟨m, rfl, hm⟩
  obtain ⟨m0, e0, w0⟩ := hone 0 a (by omega) rfl
  obtain ⟨m1, e1, w1⟩ := hone 1 b (by omega) rfl
  obtain ⟨m2, e2, w2⟩ := hone 2 c (by omega) rfl
  obtain ⟨m3, e3, w3⟩ := hone 3 d (by omega) rfl
  obtain ⟨m4, e4, w4⟩ := hone 4 e (by omega) rfl
  obtain ⟨m5, e5, w5⟩ := hone 5 f (by omega) rfl
  exact ⟨m0, m1, m2, m3, m4, m5, e0, e1, e2, e3, e4, e5, ⟨w0, w1, w2⟩, w3, w4, w5⟩
/-- a superblock's cells -/
theorem open_super_cells {fuel : Nat} {cs : List Value} {x : DataW H × List MemPlace} (h : DataW.trod enc Try.prog W 0 (fun _ => true) true fuel 27 cs = some x) :
    ∃ s : Su, cs = s.cells.toList ∧ s.fits := by
  obtain ⟨xs, n, _, _, hlen, hxs, hf⟩ := DataW.trod_struct Try.underlying27 h
  rw [cellsSu] at hlen
  match cs, hlen with
  | [v0, v1, v2, v3, v4, v5, v6, v7, v8, v9, v10, v11, v12, v13, v14, v15, v16], _ =>
    have hx : ∀ i, i < 10 → ∃ y, xs[i]? = some y := fun i hi => ⟨_, List.getElem?_eq_getElem (by rw [hxs]; exact hi)⟩
    obtain ⟨y0, e0⟩ := hx 0 (by omega)
    have h0 := (hf 0 _ rfl).trans e0
    have t0 : DataW.trod enc Try.prog W 0 (fun _ => true) true n 3 [v0] = some y0 := by rw [← h0]; show _ = DataW.trod _ _ _ _ _ _ _ _ (List.take (Try.prog.cellsOf 3) _); rw [cellsIntE]; rfl
    obtain ⟨y1, e1⟩ := hx 1 (by omega)
    have h1 := (hf 1 _ rfl).trans e1
    have t1 : DataW.trod enc Try.prog W 0 (fun _ => true) true n 3 [v1] = some y1 := by rw [← h1]; show _ = DataW.trod _ _ _ _ _ _ _ _ (List.take (Try.prog.cellsOf 3) _); rw [cellsIntE]; rfl
    obtain ⟨y2, e2⟩ := hx 2 (by omega)
    have h2 := (hf 2 _ rfl).trans e2
    have t2 : DataW.trod enc Try.prog W 0 (fun _ => true) true n 3 [v2] = some y2 := by rw [← h2]; show _ = DataW.trod _ _ _ _ _ _ _ _ (List.take (Try.prog.cellsOf 3) _); rw [cellsIntE]; rfl
    obtain ⟨y3, e3⟩ := hx 3 (by omega)
    have h3 := (hf 3 _ rfl).trans e3
    have t3 : DataW.trod enc Try.prog W 0 (fun _ => true) true n 3 [v3] = some y3 := by rw [← h3]; show _ = DataW.trod _ _ _ _ _ _ _ _ (List.take (Try.prog.cellsOf 3) _); rw [cellsIntE]; rfl
    obtain ⟨y4, e4⟩ := hx 4 (by omega)
    have h4 := (hf 4 _ rfl).trans e4
    have t4 : DataW.trod enc Try.prog W 0 (fun _ => true) true n 3 [v4] = some y4 := by rw [← h4]; show _ = DataW.trod _ _ _ _ _ _ _ _ (List.take (Try.prog.cellsOf 3) _); rw [cellsIntE]; rfl
    obtain ⟨y5, e5⟩ := hx 5 (by omega)
    have h5 := (hf 5 _ rfl).trans e5
    have t5 : DataW.trod enc Try.prog W 0 (fun _ => true) true n 24 [v5, v6, v7] = some y5 := by rw [← h5]; show _ = DataW.trod _ _ _ _ _ _ _ _ (List.take (Try.prog.cellsOf 24) _); rw [cellsMk]; rfl
    obtain ⟨y6, e6⟩ := hx 6 (by omega)
    have h6 := (hf 6 _ rfl).trans e6
    have t6 : DataW.trod enc Try.prog W 0 (fun _ => true) true n 3 [v8] = some y6 := by rw [← h6]; show _ = DataW.trod _ _ _ _ _ _ _ _ (List.take (Try.prog.cellsOf 3) _); rw [cellsIntE]; rfl
    obtain ⟨y7, e7⟩ := hx 7 (by omega)
    have h7 := (hf 7 _ rfl).trans e7
    have t7 : DataW.trod enc Try.prog W 0 (fun _ => true) true n 3 [v9] = some y7 := by rw [← h7]; show _ = DataW.trod _ _ _ _ _ _ _ _ (List.take (Try.prog.cellsOf 3) _); rw [cellsIntE]; rfl
    obtain ⟨y8, e8⟩ := hx 8 (by omega)
    have h8 := (hf 8 _ rfl).trans e8
    have t8 : DataW.trod enc Try.prog W 0 (fun _ => true) true n 25 [v10, v11, v12, v13, v14, v15] = some y8 := by rw [← h8]; show _ = DataW.trod _ _ _ _ _ _ _ _ (List.take (Try.prog.cellsOf 25) _); rw [cells6]; rfl
    obtain ⟨y9, e9⟩ := hx 9 (by omega)
    have h9 := (hf 9 _ rfl).trans e9
    have t9 : DataW.trod enc Try.prog W 0 (fun _ => true) true n 22 [v16] = some y9 := by rw [← h9]; show _ = DataW.trod _ _ _ _ _ _ _ _ (List.take (Try.prog.cellsOf 22) _); rw [cellsU64E]; rfl
    obtain ⟨z0, q0, _, w0⟩ := DataW.trod_int Try.underlying3 t0
    obtain ⟨z1, q1, _, w1⟩ := DataW.trod_int Try.underlying3 t1
    obtain ⟨z2, q2, _, w2⟩ := DataW.trod_int Try.underlying3 t2
    obtain ⟨z3, q3, _, w3⟩ := DataW.trod_int Try.underlying3 t3
    obtain ⟨z4, q4, _, w4⟩ := DataW.trod_int Try.underlying3 t4
    obtain ⟨z6, q6, _, w6⟩ := DataW.trod_int Try.underlying3 t6
    obtain ⟨z7, q7, _, w7⟩ := DataW.trod_int Try.underlying3 t7
    obtain ⟨z9, q9, _, w9⟩ := DataW.trod_int Try.underlying22 t9
    obtain ⟨m, rfl, hm⟩ := u64_bounds w9
    obtain ⟨p, q, c, rfl, rfl, rfl, wp, wq, wc⟩ := open_mark_cells t5
    obtain ⟨m0, m1, m2, m3, m4, m5, rfl, rfl, rfl, rfl, rfl, rfl, ⟨u0, u1, u2⟩, u3, u4, u5⟩ := open_six_cells t8
    cases q0; cases q1; cases q2; cases q3; cases q4; cases q6; cases q7; cases q9
    exact ⟨⟨z0, z1, z2, z3, z4, p, q, c, z6, z7, m0, m1, m2, m3, m4, m5, m⟩, rfl, ⟨int_of_wfE w0, int_of_wfE w1, int_of_wfE w2, int_of_wfE w3, int_of_wfE w4⟩, ⟨wp, wq, int_of_wfE w6, int_of_wfE w7⟩, ⟨wc, u0, u1, u2⟩, u3, u4, u5, hm⟩
/-- an argument Super -/
theorem open_super {v : Value} {d : DataW H} {ps : List MemPlace} {b0 : Nat} {r : Reach} (hval : Value.okWide Try.prog W r b0 27 v) (h : DataW.Trod enc Try.prog W 0 (fun _ => true) true 27 v d ps) :
    ∃ s : Su, v = s.val ∧ s.fits := by
  obtain ⟨cs, rfl, hsz⟩ := okWide_struct Try.underlying27 hval
  obtain ⟨fuel, hf⟩ := h
  obtain ⟨s, hX, hok⟩ := open_super_cells hf
  refine ⟨s, ?_, hok⟩
  have : cs = s.cells := by
    apply Array.toList_inj.1
    simpa [Value.cells] using hX
  rw [this]
  rfl
/-- an argument [4]int -/
theorem open_four {v : Value} {d : DataW H} {ps : List MemPlace} {b0 : Nat} {r : Reach} (hval : Value.okWide Try.prog W r b0 66 v) (h : DataW.Trod enc Try.prog W 0 (fun _ => true) true 66 v d ps) :
    ∃ y0 y1 y2 y3 : Int, v = .agg #[.int .i64 y0, .int .i64 y1, .int .i64 y2, .int .i64 y3] := by
  have hv : ∃ cs : Array Value, v = .agg cs ∧ cs.size = Try.prog.cellsOf 66 := by
    simp only [Value.okWide, Try.underlying66] at hval
    obtain ⟨cs, h1, h2, _⟩ := hval
    exact ⟨cs, h1, h2⟩
  obtain ⟨cs, rfl, hsz⟩ := hv
  rw [cells4] at hsz
  obtain ⟨fuel, hf0⟩ := h
  obtain ⟨xs, n, _, _, hlen, hxs, hf⟩ := DataW.trod_array Try.underlying66 hf0
  rw [cellsIntE] at hf
  obtain ⟨l, rfl⟩ : ∃ l : List Value, cs = l.toArray := ⟨cs.toList, by simp⟩
  simp only [Value.cells] at hf
  match l, hsz with
  | [a, b, c, e], _ =>
    have hone : ∀ i (v : Value), i < 4 → ([a, b, c, e].drop (i * 1)).take 1 = [v] → ∃ z : Int, v = .int .i64 z := by
      intro i v hi hv
      have h1 := hf i hi
      rw [hv, List.getElem?_eq_getElem (by omega)] at h1
      obtain ⟨z, q, _, w⟩ := DataW.trod_int Try.underlying3 h1
      cases q
      exact ⟨z, rfl⟩
    obtain ⟨y0, rfl⟩ := hone 0 a (by omega) rfl
    obtain ⟨y1, rfl⟩ := hone 1 b (by omega) rfl
    obtain ⟨y2, rfl⟩ := hone 2 c (by omega) rfl
    obtain ⟨y3, rfl⟩ := hone 3 e (by omega) rfl
    exact ⟨y0, y1, y2, y3, rfl⟩
/-- a []int's cell -/
theorem open_picks {fuel : Nat} {cs : List Value} {x : DataW H × List MemPlace} (h : DataW.trod enc Try.prog W 0 (fun _ => true) true fuel 44 cs = some x) :
    ∃ (A : Option Addr) (l cap : Nat) (picks : List Int), cs = [.slice A l cap] ∧ l = picks.length ∧ Rd W W.heap.size A (ints picks) ∧ (∀ y ∈ picks, y ≤ 9223372036854775807) ∧ l ≤ 9223372036854775807 := by
  rcases open_ints (k := .i64) Try.underlying44 Try.underlying3 cellsIntE h with ⟨rfl, _⟩ | ⟨a, len, cap, zs, rfl, _, hl, hm, hz, _, hcell, hwz⟩
  · exact ⟨none, 0, 0, [], rfl, rfl, Rd.nil, by simp, by omega⟩
  · simp only [if_true] at hz
    have hlen : (zs.take len).length = len := by simp; omega
    refine ⟨some a, len, cap, zs.take len, rfl, hlen.symm, ?_, ?_, ?_⟩
    · intro hne
      have hpos : 0 < len := by
        rcases Nat.eq_zero_or_pos len with h0 | h0
        · subst h0; simp [ints] at hne
        · exact h0
      obtain ⟨b, off, spot⟩ := a
      have hspot : spot = none := by simpa [Addr.add] using World.cell?_spot (hcell 0 (by omega))
      subst hspot
      refine ⟨b, off, rfl, ?_, fun j u hu => ?_⟩
      · have := World.block_lt_of_cell? W _ (hcell 0 (by omega))
        rw [add_plain] at this
        exact this
      · simp only [ints, List.getElem?_map, Option.map_eq_some_iff] at hu
        obtain ⟨n, hn, rfl⟩ := hu
        rw [List.getElem?_take] at hn
        split at hn
        · obtain ⟨hjz, rfl⟩ := List.getElem?_eq_some_iff.1 hn
          have h1 := hcell j hjz
          rw [add_plain] at h1
          rw [h1]
          simp [List.getD, List.getElem?_eq_getElem hjz]
        · cases hn
    · intro y hy
      exact (i64_bounds (hwz y (List.mem_of_mem_take hy))).2
    · unfold maxLen at hm; omega

/-- an argument []int -/
theorem open_ints_arg {v : Value} {d : DataW H} {ps : List MemPlace} {b0 : Nat} {r : Reach} (hval : Value.okWide Try.prog W r b0 44 v) (h : DataW.Trod enc Try.prog W 0 (fun _ => true) true 44 v d ps) :
    ∃ (A : Option Addr) (l cap : Nat) (picks : List Int), v = .slice A l cap ∧ l = picks.length ∧ Rd W W.heap.size A (ints picks) ∧ (∀ y ∈ picks, y ≤ 9223372036854775807) ∧ l ≤ 9223372036854775807 := by
  obtain ⟨a0, len, cap, rfl⟩ := okWide_slice Try.underlying44 hval
  obtain ⟨fuel, hf⟩ := h
  obtain ⟨A, l, cap', picks, hcs, hl, hr, hp, hpn⟩ := open_picks hf
  simp [Value.cells] at hcs
  obtain ⟨rfl, rfl, rfl⟩ := hcs
  exact ⟨_, _, _, picks, rfl, hl, hr, hp, hpn⟩

end
end Go.Proofs.Ytogchfpecbmocaa
