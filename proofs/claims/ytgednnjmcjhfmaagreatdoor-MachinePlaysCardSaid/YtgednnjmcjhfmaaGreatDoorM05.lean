/-
  Rows of equal width, end to end; values of many cells: a struct literal that fills a slice's one element, rows that are made.
-/
import Derived.Test.YtgednnjmcjhfmaaGreatDoorM01
import Derived.Great.BuildSlice
namespace Go.Proofs.YtgednnjmcjhfmaaGreatDoor
open Go.RowKit
set_option maxHeartbeats 80000000
/-! ### Rows of equal width, end to end -/
theorem flat_length (n : Nat) : ∀ (R : List (List Value)), (∀ r ∈ R, r.length = n) → R.flatten.length = R.length * n
 | [], _ => by simp
 | r :: R, h => by
  rw [List.flatten_cons, List.length_append, flat_length n R (fun r hr => h r (by simp [hr])), h r (by simp), List.length_cons, Nat.add_mul]
  omega
theorem flat_get (n : Nat) : ∀ (R : List (List Value)) (i j : Nat), (∀ r ∈ R, r.length = n) → j < n → R.flatten[i * n + j]? = R[i]?.bind (·[j]?)
 | [], i, j, _, _ => by simp
 | r :: R, 0, j, h, hj => by
  have := h r (by simp)
  rw [List.flatten_cons, Nat.zero_mul, Nat.zero_add, List.getElem?_append_left (by omega)]
  simp
 | r :: R, i + 1, j, h, hj => by
  have h1 := h r (by simp)
  rw [List.flatten_cons, List.getElem?_append_right (by rw [h1, Nat.add_mul]; omega), List.getElem?_cons_succ, ← flat_get n R i j (fun r hr => h r (by simp [hr])) hj, h1]
  congr 1
  rw [Nat.add_mul]
  omega
theorem flat_splice (n : Nat) : ∀ (R : List (List Value)) (i o : Nat) (cs : List Value) (hi : i < R.length), (∀ r ∈ R, r.length = n) → o + cs.length ≤ n →
  splice R.flatten (i * n + o) cs = (R.set i (splice R[i] o cs)).flatten
 | [], i, o, cs, hi, _, _ => absurd hi (by simp)
 | r :: R, 0, o, cs, _, h, hj => by
  have := h r (by simp)
  simp only [List.set_cons_zero, List.flatten_cons, List.getElem_cons_zero, Nat.zero_mul, Nat.zero_add, splice]
  rw [List.take_append_of_le_length (by omega), List.drop_append_of_le_length (by omega)]
  simp
 | r :: R, i + 1, o, cs, hi, h, hj => by
  have h1 := h r (by simp)
  have ih := flat_splice n R i o cs (by simpa using hi) (fun r hr => h r (by simp [hr])) hj
  simp only [List.set_cons_succ, List.flatten_cons, List.getElem_cons_succ]
  rw [← ih]
  have e : (i + 1) * n + o = r.length + (i * n + o) := by rw [h1, Nat.add_mul]; omega
  simp only [splice, e]
  rw [List.take_length_add_append, Nat.add_assoc, List.drop_length_add_append]
  simp
theorem flat_set (n : Nat) : ∀ (R : List (List Value)) (i j : Nat) (u : Value) (hi : i < R.length), (∀ r ∈ R, r.length = n) → j < n → R.flatten.set (i * n + j) u = (R.set i (R[i].set j u)).flatten
 | [], i, j, u, hi, _, _ => absurd hi (by simp)
 | r :: R, 0, j, u, _, h, hj => by
  have := h r (by simp)
  simp only [List.set_cons_zero, List.flatten_cons, List.getElem_cons_zero, Nat.zero_mul, Nat.zero_add]
  rw [List.set_append_left _ _ (by omega)]
 | r :: R, i + 1, j, u, hi, h, hj => by
  have h1 := h r (by simp)
  have ih := flat_set n R i j u (by simpa using hi) (fun r hr => h r (by simp [hr])) hj
  simp only [List.set_cons_succ, List.flatten_cons, List.getElem_cons_succ]
  rw [← ih, List.set_append_right _ _ (by rw [h1, Nat.add_mul]; omega), h1]
  congr 2
  rw [Nat.add_mul]
  omega
theorem foldl_set (l : List Value) : ∀ (k : Nat) (cs : Array Value), k + l.length ≤ cs.size →
  ((l.zipIdx k).foldl (fun (cs : Array Value) (x : Value × Nat) => cs.setIfInBounds x.2 x.1) cs).toList = splice cs.toList k l := by
 induction l with
 | nil => intro k cs _; simp [splice]
 | cons v r ih =>
  intro k cs h
  simp only [List.length_cons] at h
  rw [List.zipIdx_cons, List.foldl_cons, ih (k + 1) _ (by simp; omega)]
  simp only [splice, Array.toList_setIfInBounds, List.length_cons]
  have hk : k < cs.toList.length := by simp; omega
  rw [List.drop_set_of_lt (by omega)]
  have e1 : (cs.toList.set k v).take (k + 1) = cs.toList.take k ++ [v] := by
   rw [List.take_succ_eq_append_getElem (by simpa using hk), List.take_set_of_le (Nat.le_refl _)]
   simp
  rw [e1, List.append_assoc]
  simp [Nat.add_assoc, Nat.add_comm 1]
/-- one part that fills all -/
theorem fill_one (place : Nat → Option (Nat × Nat)) (n : Nat) (cs : Array Value) (vs : List Value) (hp : place 0 = some (0, n)) (hn : vs.length = n) (hc : cs.size = n) :
  Instr.fill place cs [(0, .agg vs.toArray)] = some vs.toArray := by
 subst hn
 have hz : (vs.zipIdx 0).foldl (fun (cs : Array Value) (x : Value × Nat) => cs.setIfInBounds (0 + x.2) x.1) cs = vs.toArray := by
  apply Array.toList_inj.1
  have := foldl_set vs 0 cs (by omega)
  simp only [Nat.zero_add]
  rw [this]
  simp [splice, List.drop_eq_nil_of_le, hc]
 simp only [Nat.zero_add] at hz
 simp [Instr.fill, hp, Value.cells, hc]
 exact hz
/-- []T{x}, x a value of many cells -/
theorem wp_slice1 {P : Program} {o : Oper} {a : Act} {w : World} {K : Act → World → Prop} {Q : Exit → Act → World → Prop} (t e : TypeId) (x : Operand) (ho : o.op = .buildSlice t 1 #[(0, x)])
  (ie : TypeInfo) (z : Value) (size : Nat) (hu : P.underlying t = some (.slice e)) (hie : P.info? e = some ie) (hz : ie.zero = some z) (hs : ie.size = size) (hpos : 0 < size) (hsmall : size ≤ 16777216)
  (cs : List Value) (hx : a.eval x = .agg cs.toArray) (hl : cs.length = size)
  (h : K (a.put o.dst (.slice (some ⟨w.heap.size, 0, none⟩) 1 1)) (w.alloc (.cells cs.toArray e))) : o.wp P a w K Q := by
 refine wp_buildSlice t e 1 _ ho cs.toArray ie z hu hie hz (by rw [hs]; omega) (by rw [hs]; omega) ?_ h
 have e1 : (Array.map (fun (y : Nat × Operand) => (y.1, a.eval y.2)) #[(0, x)]).toList = [(0, a.eval x)] := by simp
 refine Eq.trans (congrArg _ e1) ?_
 rw [hx]
 exact fill_one _ size _ _ (by rw [hs]; simp) hl (by rw [Array.size_map, Array.size_range, hs, Nat.one_mul])
/-- the cells of make([]T, n) -/
theorem madeCells_flat (z : List Value) (n : Nat) (hz : 0 < z.length) : (madeCells z.toArray (n * z.length)).toList = (List.replicate n z).flatten := by
 apply List.ext_getElem?
 intro j
 have hR : ∀ r ∈ List.replicate n z, r.length = z.length := by intro r hr; rw [List.eq_of_mem_replicate hr]
 have e : j = j / z.length * z.length + j % z.length := by rw [Nat.mul_comm]; exact (Nat.div_add_mod j z.length).symm
 have hm := Nat.mod_lt j hz
 rw [show (List.replicate n z).flatten[j]? = (List.replicate n z).flatten[j / z.length * z.length + j % z.length]? from by rw [← e], flat_get z.length _ _ _ hR hm, List.getElem?_replicate]
 by_cases hj : j < n * z.length
 ·
  have h1 : j / z.length < n := Nat.div_lt_of_lt_mul (by rw [Nat.mul_comm]; exact hj)
  rw [if_pos h1]
  simp [madeCells, hj, hm]
 ·
  have h1 : ¬ j / z.length < n := by
   intro h1
   have := (Nat.div_lt_iff_lt_mul hz).1 h1
   omega
  rw [if_neg h1]
  simp [madeCells, hj]
/-- make([]T, n) of elements of more cells -/
theorem wpl_make_big {P : Program} {w : World} {ops : Array Oper} {rest : List Oper} {o : Oper} {a : Act} {Q : Exit → Act → World → Prop}
  (hg : o.guard = none) (l c : Operand) (t : TypeId) (hop : o.op = Op.makeSlice t l c)
  (e : TypeId) (i : TypeInfo) (z : Value) (zs : List Value) (h1 : P.underlying t = some (.slice e)) (h2 : P.info? e = some i) (h3 : i.zero = some z) (h4 : i.size = zs.length) (hz : z.cells = zs.toArray) (hpos : 0 < zs.length)
  (kl kc : IntKind) (L C : Int) (n : Nat) (hl : a.eval l = .int kl L) (hc : a.eval c = .int kc C)
  (hK : ∀ g w', Hid (g = w.heap.size) → Row w' g e (List.replicate n zs).flatten → w.grownBy w' none → wpList P ops Q rest (a.put o.dst (.slice (some ⟨g, 0, none⟩) n n)) w')
  (hL : Hid (L = (n : Int))) (hC : Hid (C = (n : Int))) (b2 : Hid (i.bytes * n ≤ 281474976710656)) (b3 : Hid (n ≤ maxLen)) :
  wpList P ops Q (o :: rest) a w := by
 refine wpList_make_full w hg l c t hop w.heap.size e i z zs.length h1 h2 h3 h4 kl kc L C n hl hc hL.out hC.out b2.out b3.out (Nat.le_refl _) fun w' hown hgr => hK _ w' (hid rfl) ?_ hgr
 rcases hown.2 with ⟨hv, _⟩ | ⟨g, cap, cur, hv, _, hh, _, _, h5, h6⟩
 ·
  simp at hv
 ·
  simp only [Value.slice.injEq, Option.some.injEq, Addr.mk.injEq, true_and, and_true] at hv
  obtain ⟨rfl, rfl⟩ := hv
  have : cur = ((List.replicate n zs).flatten).toArray := by
   apply Array.toList_inj.1
   have h7 : cur.toList.take (n * zs.length) = cur.toList := List.take_of_length_le (by simp only [Array.length_toList]; omega)
   rw [← h7, h6, hz, madeCells_flat zs n hpos]
  subst this
  exact hh
end Go.Proofs.YtgednnjmcjhfmaaGreatDoor
