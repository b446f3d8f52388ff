/-
  What the texts of this seat lean on: lists of structs in memory, values and texts that are told, new memory.
-/
import Derived.Test.YtgphijkonmdehaaTtext
import Derived.Test.YtgphijkonmdehaaFlat
import Derived.Test.YtgphijkonmdehaaPreb
import Derived.Deep.MidRow
import Derived.Deep.AppendLies
namespace Go.Proofs.Ytgphijkonmdehaa
open Go.RowKit
set_option maxRecDepth 10000

/-- a list's cells -/
def rows {α : Type} (C : α → List Value) (l : List α) : List Value := (l.map C).flatten
abbrev U64 (n : Nat) : Prop := n < 18446744073709551616
section
variable {α : Type} {C : α → List Value} {n : Nat}
theorem rows_len (h : ∀ x, (C x).length = n) (l : List α) : (rows C l).length = l.length * n := by
  unfold rows
  rw [flat_length n _ (by intro r hr; obtain ⟨x, _, rfl⟩ := List.mem_map.1 hr; exact h x), List.length_map]
theorem rows_get (h : ∀ x, (C x).length = n) (l : List α) (i j : Nat) (hi : i < l.length) (hj : j < n) : (rows C l)[i * n + j]? = (C l[i])[j]? := by
  unfold rows
  rw [flat_get n _ i j (by intro r hr; obtain ⟨x, _, rfl⟩ := List.mem_map.1 hr; exact h x) hj, List.getElem?_map, List.getElem?_eq_getElem hi]
  rfl
theorem rows_one {l : List α} (h : ∀ x, ∀ u ∈ C x, u.oneCell' = true) : ∀ u ∈ rows C l, u.oneCell' = true := by
  intro u hu
  obtain ⟨r, hr, hu⟩ := List.mem_flatten.1 hu
  obtain ⟨x, _, rfl⟩ := List.mem_map.1 hr
  exact h x u hu
theorem rows_app (l m : List α) : rows C (l ++ m) = rows C l ++ rows C m := by simp [rows]
theorem rows_take (h : ∀ x, (C x).length = n) : ∀ (l : List α) (k : Nat), rows C (l.take k) = (rows C l).take (k * n)
  | [], k => by simp [rows]
  | x :: l, 0 => by simp [rows]
  | x :: l, k + 1 => by
    have := rows_take h l k
    simp only [rows, List.take_succ_cons, List.map_cons, List.flatten_cons] at this ⊢
    have e : (k + 1) * n = (C x).length + k * n := by rw [h x, Nat.add_mul]; omega
    rw [this, e, List.take_length_add_append]
end
/-- a text -/
def SE (w : World) (r : List UInt8) (e : Ending) (w' : World) : Prop := e = .returned (.string ⟨r.toArray⟩) ∧ Below w.heap.size w w'
/-- a value, and what was there is as it was -/
def VE (w : World) (v : Value) (e : Ending) (w' : World) : Prop := e = .returned v ∧ Below w.heap.size w w'

theorem cat_mk (a b : List UInt8) : (⟨a.toArray⟩ : ByteArray) ++ ⟨b.toArray⟩ = ⟨(a ++ b).toArray⟩ := by
  apply ByteArray.ext
  simp
theorem own_base {w : World} {B B' e size n : Nat} {v : Value} {xs : List Value} (h : w.ownsRow B e size v n xs) (hB : B' ≤ B) : w.ownsRow B' e size v n xs := by
  obtain ⟨h1, h2⟩ := h
  refine ⟨h1, ?_⟩
  rcases h2 with h2 | ⟨g, cap, cur, e1, a, b⟩
  · exact .inl h2
  · exact .inr ⟨g, cap, cur, e1, by omega, b⟩
theorem own_below {w w' : World} {B e size n : Nat} {v : Value} {xs : List Value} (h : w.ownsRow B e size v n xs) (hb : Below w.heap.size w w') : w'.ownsRow B e size v n xs := by
  obtain ⟨h1, h2⟩ := h
  refine ⟨h1, ?_⟩
  rcases h2 with h2 | ⟨g, cap, cur, e1, a, b, c⟩
  · exact .inl h2
  · exact .inr ⟨g, cap, cur, e1, a, (hb.block g (Array.getElem?_eq_some_iff.1 b).1).trans b, c⟩
theorem alloc2_new (w : World) (o1 o2 : Obj) : ((w.alloc o1).alloc o2).heap[w.heap.size + 1]? = some o2 := by
  have := heap_alloc_new (w.alloc o1) o2
  simpa using this

section
variable {w w' w'' : World} {r : Option Nat}
theorem gtrans (h : w.grownBy w' r) (h' : w'.grownBy w'' r) : w.grownBy w'' r :=
  ⟨h'.os.trans h.os, h'.tape.trans h.tape, h'.output.trans h.output, Nat.le_trans h.size h'.size, fun k hk hr => (h'.block k (Nat.lt_of_lt_of_le hk h.size) hr).trans (h.block k hk hr)⟩
theorem gbelow {B : Nat} (h : Below B w w') (hB : w.heap.size ≤ B) (r : Option Nat) : w.grownBy w' r := ⟨h.os, h.tape, h.output, h.size, fun k hk _ => h.block k (by omega)⟩
theorem gset (w : World) (g i : Nat) (u : Value) : w.grownBy (w.setCell ⟨g, i, none⟩ u) (some g) :=
  ⟨rfl, rfl, rfl, by simp, fun k _ hr => heap_setCell_other w ⟨g, i, none⟩ k u (by intro e; exact hr (by rw [e]))⟩
end

/-- new memory, or none -/
def NewA (w : World) (A : Option Addr) : Prop := ∀ a, A = some a → w.heap.size ≤ a.block
theorem NewA.none (w : World) : NewA w none := fun a h => by cases h
theorem NewA.head (w : World) (o : Nat) : NewA w (some ⟨w.heap.size, o, .none⟩) := fun a h => by cases h; exact Nat.le_refl _
theorem NewA.le {w w' : World} {A : Option Addr} (h : NewA w' A) (hs : w.heap.size ≤ w'.heap.size) : NewA w A := fun a ha => Nat.le_trans hs (h a ha)
theorem NewA.own {w w0 : World} {e m n c : Nat} {A : Option Addr} {xs : List Value} (h : w.ownsRow w0.heap.size e m (.slice A n c) n xs) : NewA w0 A := fun a ha => by
  subst ha
  rcases h.2 with ⟨hv, _⟩ | ⟨g, cap, cur, hv, hb, _⟩
  · cases hv
  · cases hv
    exact hb
/-- the first k of a list of rows, noughts behind them -/
def part (xs : List (List Value)) (z : List Value) (n k : Nat) : List (List Value) := xs.take k ++ List.replicate (n - k) z
section
variable {xs : List (List Value)} {z : List Value} {n m : Nat}
theorem part_zero : part xs z n 0 = List.replicate n z := by simp [part]
theorem part_all (h : xs.length = n) : part xs z n n = xs := by
  unfold part
  rw [List.take_of_length_le (by omega), Nat.sub_self]
  simp
theorem part_len (h : xs.length = n) (k : Nat) (hk : k ≤ n) : (part xs z n k).length = n := by
  unfold part
  rw [List.length_append, List.length_take, List.length_replicate]
  omega
theorem part_rows (hx : ∀ r ∈ xs, r.length = m) (hz : z.length = m) (k : Nat) : ∀ r ∈ part xs z n k, r.length = m := by
  intro r hr
  rcases List.mem_append.1 hr with hr | hr
  · exact hx r (List.mem_of_mem_take hr)
  · rw [List.eq_of_mem_replicate hr, hz]
theorem part_set (h : xs.length = n) (k : Nat) (hk : k < n) (v : List Value) (hv : xs[k]? = some v) : (part xs z n k).set k v = part xs z n (k + 1) := by
  have hl : (xs.take k).length = k := by rw [List.length_take]; omega
  unfold part
  rw [List.set_append_right _ _ (by omega), hl, Nat.sub_self, show n - k = (n - (k + 1)) + 1 by omega, List.replicate_succ, List.set_cons_zero]
  obtain ⟨hlt, rfl⟩ := List.getElem?_eq_some_iff.1 hv
  rw [List.take_succ_eq_append_getElem hlt, List.append_assoc]
  rfl
/-- row k is laid -/
theorem part_splice (h : xs.length = n) (hx : ∀ r ∈ xs, r.length = m) (hz : z.length = m) (k : Nat) (hk : k < n) (v : List Value) (hv : xs[k]? = some v) :
    splice (part xs z n k).flatten (k * m) v = (part xs z n (k + 1)).flatten := by
  have hvl : v.length = m := hx v (List.mem_of_getElem? hv)
  have hkl : k < (part xs z n k).length := by rw [part_len h k (by omega)]; exact hk
  have := flat_splice m (part xs z n k) k 0 v hkl (part_rows hx hz k) (by omega)
  rw [Nat.add_zero] at this
  rw [this, ← part_set h k hk v hv]
  congr 2
  unfold splice
  rw [List.take_zero, List.nil_append, List.drop_of_length_le, List.append_nil]
  rw [part_rows hx hz k _ (List.getElem_mem hkl)]
  omega
theorem part_flat (h : xs.length = n) (hx : ∀ r ∈ xs, r.length = m) (hz : z.length = m) (k : Nat) (hk : k ≤ n) : (part xs z n k).flatten.length = n * m := by
  rw [flat_length m _ (part_rows hx hz k), part_len h k hk]
end

theorem Row.setCells {w : World} {g : Nat} {e : TypeId} {xs : List Value} (h : Row w g e xs) : ∀ (vs : List Value) (o : Nat), o + vs.length ≤ xs.length → Row (w.setCells g o vs) g e (splice xs o vs) ∧ w.grownBy (w.setCells g o vs) (some g)
  | [], o, ho => ⟨by simpa [splice, World.setCells] using h, World.grownBy.refl _ _⟩
  | v :: r, o, ho => by
    simp only [List.length_cons] at ho
    obtain ⟨h1, h2⟩ := Row.setCells (h.set_ o v) r (o + 1) (by rw [List.length_set]; omega)
    have e : splice (xs.set o v) (o + 1) r = splice xs o (v :: r) := by
      unfold splice
      have hk : o < xs.length := by omega
      rw [List.drop_set_of_lt (by omega), List.take_succ_eq_append_getElem (by simpa using hk), List.take_set_of_le (Nat.le_refl _)]
      simp [Nat.add_assoc, Nat.add_comm 1]
    rw [e] at h1
    exact ⟨h1, gtrans (gset _ _ _ _) h2⟩
theorem Row.there {w : World} {g : Nat} {e : TypeId} {xs : List Value} (h : Row w g e xs) (o n : Nat) (ho : o + n ≤ xs.length) : w.there g o n := fun j hj => by
  rw [h.cell, List.getElem?_eq_getElem (by omega)]
  exact ⟨rfl, h.frozen _⟩
theorem Rd.range {α : Type} {C : α → List Value} {w : World} {B g o n : Nat} {l : List α} (h : Rd w B (some ⟨g, o, none⟩) (rows C l)) (hC : ∀ x, (C x).length = n) (k : Nat) (hk : k < l.length) : w.rangeAt g (o + k * n) (C l[k]) := fun j v hv => by
  have hj : j < n := by rw [← hC l[k]]; exact (List.getElem?_eq_some_iff.1 hv).1
  have hget := rows_get hC l k j hk hj
  obtain ⟨g', o', e, _, hc⟩ := h (by intro e; rw [e] at hget; rw [hv] at hget; simp at hget)
  cases e
  rw [Nat.add_assoc]
  exact hc _ _ (hget.trans hv)

/-- a store of a struct into a row of structs -/
theorem wpl_store_part {P : Program} {ops : Array Oper} {rest : List Oper} {o : Oper} {a : Act} {w : World} {Q : Exit → Act → World → Prop} (hgd : o.guard = none) {T : TypeId} (x y : Operand) (ho : o.op = .store T x y) {m : Nat} (hm : (P.info? T).map (·.size) = some m)
    (g k n : Nat) (xs : List (List Value)) (z v : List Value) (hx : a.eval x = .pointer (some ⟨g, k * m, none⟩)) (hy : a.eval y = .agg v.toArray) (hrow : Row w g T (part xs z n k).flatten)
    (hK : ∀ w', Row w' g T (part xs z n (k + 1)).flatten → w.grownBy w' (some g) → wpList P ops Q rest (a.put o.dst undef) w')
    (hn : Hid (xs.length = n)) (hX : Hid (∀ r ∈ xs, r.length = m)) (hz : Hid (z.length = m)) (hk : Hid (k < n)) (hv : Hid (xs[k]? = some v)) (hone : Hid (v.all (·.oneCell') = true)) : wpList P ops Q (o :: rest) a w := by
  have hvl : v.length = m := hX.out v (List.mem_of_getElem? hv.out)
  have hfl := part_flat hn.out hX.out hz.out k (Nat.le_of_lt hk.out)
  have hkm : k * m + m ≤ n * m := by
    have : (k + 1) * m ≤ n * m := Nat.mul_le_mul_right _ hk.out
    rw [Nat.add_mul] at this
    omega
  obtain ⟨h1, h2⟩ := hrow.setCells v (k * m) (by omega)
  rw [part_splice hn.out hX.out hz.out k hk.out v hv.out] at h1
  exact wpList_store_mid hgd T x y ho g (k * m) v.toArray hx hy (by rw [List.size_toArray]; exact hrow.there _ _ (by omega)) (by rw [List.size_toArray, hvl]; exact hm) (by simpa using hone.out) (hK _ h1 h2)

theorem Row.arr {w : World} {g : Nat} {e : TypeId} {cs : Array Value} (h : Row w g e cs.toList) : w.heap[g]? = some (.cells cs e (0, 0)) := by simpa [Row] using h
theorem Row.arr' {w : World} {g : Nat} {e : TypeId} {cs : List Value} (h : Row w g e cs) : w.heap[g]? = some (.cells cs.toArray e (0, 0)) := h

/-- a store of a struct -/
theorem wpl_store_st {P : Program} {ops : Array Oper} {rest : List Oper} {o : Oper} {a : Act} {w : World} {Q : Exit → Act → World → Prop} (hgd : o.guard = none) {T : TypeId} (x y : Operand) (ho : o.op = .store T x y) {n : Nat} (hn : (P.info? T).map (·.size) = some n)
    (g : Nat) (cs0 cs : List Value) (hx : a.eval x = .pointer (some ⟨g, 0, none⟩)) (hy : a.eval y = .agg cs.toArray) (hrow : Row w g T cs0)
    (hK : ∀ w', Row w' g T cs → w.grownBy w' (some g) → wpList P ops Q rest (a.put o.dst undef) w')
    (h0 : Hid (cs0.length = n)) (h1 : Hid (cs.length = n)) (hone : Hid (cs.all (·.oneCell') = true)) : wpList P ops Q (o :: rest) a w :=
  wpList_plain hgd fun _ hK' => wp_store_row T x y ho g cs.toArray hx hy T cs0.toArray hrow (by rw [hn, List.size_toArray, h1.out]) (by simp [h0.out, h1.out]) (by simpa using hone.out)
    (hK' _ _ (hK _ (by
      have := setRow_heap w g cs0.toArray cs.toArray T (0, 0) hrow
      exact this) (grownBy_setRow w g _)))

theorem results_cell1 {P : Program} {fn : Func} {p u : Tmp} {ty : TypeId} (h : fn.results = #[.cell p ty, .tmp u]) (tmps : Array Value) (w : World) (g : Nat) (e : TypeId) (cs : Array Value) (fr : Nat × Nat) (d : TypeDesc) (y : Value)
    (hy : tmps.getD u undef = y) (hp : tmps.getD p undef = .pointer (some ⟨g, 0, none⟩)) (hg : w.heap[g]? = some (.cells cs e fr))
    (hu : P.underlying ty = some d) (hd : (match d with | .struct _ | .array _ _ => true | _ => false) = true) (hi : (P.info? ty).map (·.size) = some cs.size) :
    (results fn tmps).run P w = .ok (.tuple #[.agg cs, y]) w := by
  subst hy
  have hp' : tmps[p]?.getD undef = .pointer (some ⟨g, 0, none⟩) := by simpa using hp
  simp [results, h, hp', asAddr, run_loadVar_row w g e ty cs fr d hg hu hd hi]

theorem own_empty {w : World} {g B m : Nat} {T : TypeId} (h : Row w g T []) (hB : B ≤ g) : w.ownsRow B T m (.slice (some ⟨g, 0, none⟩) 0 0) 0 [] :=
  ⟨by simp, .inr ⟨g, 0, #[], rfl, hB, h, Nat.le_refl _, by simp, by simp, by simp⟩⟩
theorem own_rd {w : World} {B : Nat} {e : TypeId} {v : Value} {n m : Nat} {xs : List Value} (h : w.ownsRow B e m v n xs) : ∃ A c, v = .slice A n c ∧ n ≤ c ∧ Rd w w.heap.size A xs := by
  obtain ⟨h1, h2⟩ := h
  rcases h2 with ⟨rfl, h0⟩ | ⟨g, cap, cur, rfl, a, b, c, d, e1, f⟩
  · have hx : xs = [] := List.eq_nil_of_length_eq_zero (by rw [h1, h0, Nat.zero_mul])
    subst hx h0
    exact ⟨none, 0, rfl, Nat.le_refl _, Rd.nil⟩
  · refine ⟨_, cap, rfl, c, fun hne => ⟨g, 0, rfl, (Array.getElem?_eq_some_iff.1 b).1, fun j u hu => ?_⟩⟩
    rw [cell_of_row w g _ cur e (0, 0) b]
    rw [← f, List.getElem?_take] at hu
    split at hu
    · simpa using hu
    · cases hu

/-- a list, in new memory -/
def LS {α : Type} (C : α → List Value) (w : World) (l : List α) (e : Ending) (w' : World) : Prop :=
  ∃ A c, e = .returned (.slice A l.length c) ∧ l.length ≤ c ∧ Rd w' w'.heap.size A (rows C l) ∧ Below w.heap.size w w' ∧ NewA w A
/-- []T{x}, x a value of many cells, as a step of the walk -/
theorem wpl_slice1 {P : Program} {ops : Array Oper} {rest : List Oper} {o : Oper} {a : Act} {w : World} {Q : Exit → Act → World → Prop} (hgd : o.guard = none) (t e : TypeId) (x : Operand) (ho : o.op = .buildSlice t 1 #[(0, x)])
    (ie : TypeInfo) (z : Value) (size : Nat) (hu : P.underlying t = some (.slice e)) (hie : P.info? e = some ie) (hz : ie.zero = some z) (hs : ie.size = size) (hpos : 0 < size) (hsmall : size ≤ 16777216)
    (cs : List Value) (hx : a.eval x = .agg cs.toArray) (hl : cs.length = size)
    (h : wpList P ops Q rest (a.put o.dst (.slice (some ⟨w.heap.size, 0, none⟩) 1 1)) (w.alloc (.cells cs.toArray e))) : wpList P ops Q (o :: rest) a w :=
  wpList_plain hgd fun _ hK => wp_slice1 t e x ho ie z size hu hie hz hs hpos hsmall cs hx hl (hK _ _ h)
theorem rows1 {α : Type} (C : α → List Value) (x : α) : rows C [x] = C x := by simp [rows]

theorem range_of {α : Type} {C : α → List Value} {w : World} {B g o m : Nat} {l : List α} (h : Rd w B (some ⟨g, o, none⟩) (rows C l)) (hC : ∀ x, (C x).length = m) {k : Nat} (hk : k < l.length) : w.rangeAt g (o + k * m) (C l[k]) := h.range hC k hk
theorem shape_of {α : Type} {C : α → List Value} {w : World} {B m : Nat} {A : Option Addr} {l : List α} (h : Rd w B A (rows C l)) (hC : ∀ x, (C x).length = m) (hm : 0 < m) (hl : 0 < l.length) : ∃ g o, A = some ⟨g, o, none⟩ := by
  obtain ⟨g, o, e, _⟩ := h (by
    intro e
    have h1 := rows_len hC l
    rw [e] at h1
    have h2 : 0 < l.length * m := Nat.mul_pos hl hm
    simp at h1
    omega)
  exact ⟨g, o, e⟩

theorem below_drewN {B : Nat} {w w' : World} (h : Below B w w') (n : Nat) : Below B w (w'.drewN n) := ⟨h.os, h.tape, h.output, h.size, h.block⟩
/-- the world under one name -/
theorem name_wp {P : Program} {c : Code} {Q : Exit → Act → World → Prop} {a : Act} {W : World} (h : ∀ w3, w3 = W → Code.wp P c Q a w3) : Code.wp P c Q a W := h W rfl
theorem ne_nat {a b : Nat} (h : a ≠ b) : ((a : Int) == (b : Int)) = false := beq_eq_false_iff_ne.2 (by omega)
/-- what was there at the region's beginning is as it was -/
def Kp (W w : World) : Prop := Below W.heap.size W w
theorem Kp.refl (W : World) : Kp W W := Below.refl _ _
theorem Kp.drew {W w : World} (h : Kp W w) : Kp W w.drew := Below.drew h
theorem Kp.alloc {W w : World} (h : Kp W w) (o : Obj) : Kp W (w.alloc o) := Below.alloc h (Below.size h) o
theorem Kp.call {W w w' : World} (hb : Below w.heap.size w w') (h : Kp W w) : Kp W w' := Below.trans h (hb.mono (Below.size h))

end Go.Proofs.Ytgphijkonmdehaa
