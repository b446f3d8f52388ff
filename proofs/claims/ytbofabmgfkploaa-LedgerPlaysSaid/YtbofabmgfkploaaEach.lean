/-
  What package event's each answers, by plain words; rows that are filled from the left.
-/
import Derived.Test.YtbofabmgfkploaaTakt
import Derived.Test.YtbofabmgfkploaaAskt
import Derived.Deep.MidRow
namespace Go.Proofs.Ytbofabmgfkploaa
open Go.RowKit
set_option maxRecDepth 10000

/-- new memory, or none -/
def NewA (w : World) (A : Option Addr) : Prop := ∀ a, A = some a → w.heap.size ≤ a.block
theorem NewA.none (w : World) : NewA w none := fun a h => by cases h
theorem NewA.head (w : World) (o : Nat) : NewA w (some ⟨w.heap.size, o, .none⟩) := fun a h => by cases h; exact Nat.le_refl _
theorem NewA.le {w w' : World} {A : Option Addr} (h : NewA w' A) (hs : w.heap.size ≤ w'.heap.size) : NewA w A := fun a ha => Nat.le_trans hs (h a ha)
theorem NewA.own {w w0 : World} {e m n c : Nat} {A : Option Addr} {xs : List Value} (h : w.ownsRow w0.heap.size e m (.slice A n c) n xs) : NewA w0 A := fun a ha => by
  subst ha
  rcases h.2 with ⟨hv, _⟩ | ⟨g, cap, cur, hv, hb, _⟩
  · cases hv
  · cases hv
    exact hb
/-- a list and a yes or no -/
def LB {α : Type} (C : α → List Value) (w : World) (r : List α × Bool) (e : Ending) (w' : World) : Prop :=
  ∃ A c, e = .returned (.tuple #[.slice A r.1.length c, .bool r.2]) ∧ r.1.length ≤ c ∧ Rd w' w'.heap.size A (rows C r.1) ∧ Below w.heap.size w w' ∧ NewA w A
theorem LB_none {α : Type} {C : α → List Value} {w w' : World} (b : Bool) (hb : Below w.heap.size w w') : LB C w (([] : List α), b) (.returned (.tuple #[.slice none 0 0, .bool b])) w' :=
  ⟨none, 0, rfl, Nat.le_refl _, Rd.nil, hb, NewA.none w⟩
/-- each piece by its bytes -/
def eachP {α : Type} (f : α → Option (List UInt8)) (l : List α) : List (List UInt8) × Bool :=
  if l.length = 0 ∨ 4 < l.length then ([], false) else if l.all (fun x => (f x).isSome) then (l.map (fun x => (f x).getD []), true) else ([], false)

/-- the first k of a list of rows, noughts behind them -/
def part (xs : List (List Value)) (z : List Value) (n k : Nat) : List (List Value) := xs.take k ++ List.replicate (n - k) z
section
variable {xs : List (List Value)} {z : List Value} {n m : Nat}
theorem part_zero : part xs z n 0 = List.replicate n z := by simp [part]
theorem part_all (h : xs.length = n) : part xs z n n = xs := by
  unfold part
  rw [List.take_of_length_le (by omega), Nat.sub_self]
  simp
theorem part_len (h : xs.length = n) (k : Nat) (hk : k ≤ n) : (part xs z n k).length = n := by
  unfold part
  rw [List.length_append, List.length_take, List.length_replicate]
  omega
theorem part_rows (hx : ∀ r ∈ xs, r.length = m) (hz : z.length = m) (k : Nat) : ∀ r ∈ part xs z n k, r.length = m := by
  intro r hr
  rcases List.mem_append.1 hr with hr | hr
  · exact hx r (List.mem_of_mem_take hr)
  · rw [List.eq_of_mem_replicate hr, hz]
theorem part_set (h : xs.length = n) (k : Nat) (hk : k < n) (v : List Value) (hv : xs[k]? = some v) : (part xs z n k).set k v = part xs z n (k + 1) := by
  have hl : (xs.take k).length = k := by rw [List.length_take]; omega
  unfold part
  rw [List.set_append_right _ _ (by omega), hl, Nat.sub_self, show n - k = (n - (k + 1)) + 1 by omega, List.replicate_succ, List.set_cons_zero]
  obtain ⟨hlt, rfl⟩ := List.getElem?_eq_some_iff.1 hv
  rw [List.take_succ_eq_append_getElem hlt, List.append_assoc]
  rfl
/-- row k is laid -/
theorem part_splice (h : xs.length = n) (hx : ∀ r ∈ xs, r.length = m) (hz : z.length = m) (k : Nat) (hk : k < n) (v : List Value) (hv : xs[k]? = some v) :
    splice (part xs z n k).flatten (k * m) v = (part xs z n (k + 1)).flatten := by
  have hvl : v.length = m := hx v (List.mem_of_getElem? hv)
  have hkl : k < (part xs z n k).length := by rw [part_len h k (by omega)]; exact hk
  have := flat_splice m (part xs z n k) k 0 v hkl (part_rows hx hz k) (by omega)
  rw [Nat.add_zero] at this
  rw [this, ← part_set h k hk v hv]
  congr 2
  unfold splice
  rw [List.take_zero, List.nil_append, List.drop_of_length_le, List.append_nil]
  rw [part_rows hx hz k _ (List.getElem_mem hkl)]
  omega
theorem part_flat (h : xs.length = n) (hx : ∀ r ∈ xs, r.length = m) (hz : z.length = m) (k : Nat) (hk : k ≤ n) : (part xs z n k).flatten.length = n * m := by
  rw [flat_length m _ (part_rows hx hz k), part_len h k hk]
end

theorem Row.setCells {w : World} {g : Nat} {e : TypeId} {xs : List Value} (h : Row w g e xs) : ∀ (vs : List Value) (o : Nat), o + vs.length ≤ xs.length → Row (w.setCells g o vs) g e (splice xs o vs) ∧ w.grownBy (w.setCells g o vs) (some g)
  | [], o, ho => ⟨by simpa [splice, World.setCells] using h, World.grownBy.refl _ _⟩
  | v :: r, o, ho => by
    simp only [List.length_cons] at ho
    obtain ⟨h1, h2⟩ := Row.setCells (h.set_ o v) r (o + 1) (by rw [List.length_set]; omega)
    have e : splice (xs.set o v) (o + 1) r = splice xs o (v :: r) := by
      unfold splice
      have hk : o < xs.length := by omega
      rw [List.drop_set_of_lt (by omega), List.take_succ_eq_append_getElem (by simpa using hk), List.take_set_of_le (Nat.le_refl _)]
      simp [Nat.add_assoc, Nat.add_comm 1]
    rw [e] at h1
    exact ⟨h1, gtrans (gset _ _ _ _) h2⟩
theorem Row.there {w : World} {g : Nat} {e : TypeId} {xs : List Value} (h : Row w g e xs) (o n : Nat) (ho : o + n ≤ xs.length) : w.there g o n := fun j hj => by
  rw [h.cell, List.getElem?_eq_getElem (by omega)]
  exact ⟨rfl, h.frozen _⟩
theorem Rd.range {α : Type} {C : α → List Value} {w : World} {B g o n : Nat} {l : List α} (h : Rd w B (some ⟨g, o, none⟩) (rows C l)) (hC : ∀ x, (C x).length = n) (k : Nat) (hk : k < l.length) : w.rangeAt g (o + k * n) (C l[k]) := fun j v hv => by
  have hj : j < n := by rw [← hC l[k]]; exact (List.getElem?_eq_some_iff.1 hv).1
  have hget := rows_get hC l k j hk hj
  obtain ⟨g', o', e, _, hc⟩ := h (by intro e; rw [e] at hget; rw [hv] at hget; simp at hget)
  cases e
  rw [Nat.add_assoc]
  exact hc _ _ (hget.trans hv)

/-- a cell of a row of cells -/
theorem part_cell {W : World} {g n k : Nat} {T : TypeId} {xs : List (List Value)} {z : List Value} {u : Value} (hrow : Row W g T (part xs z n k).flatten) (hn : xs.length = n) (hX : ∀ r ∈ xs, r.length = 1) (hz : z.length = 1) (hk : k < n) (hv : xs[k]? = some [u]) :
    (∃ u0, W.cell? ⟨g, k, none⟩ = some u0) ∧ W.frozen? ⟨g, k, none⟩ = false ∧ Row (W.setCell ⟨g, k, none⟩ u) g T (part xs z n (k + 1)).flatten := by
  have hfl := part_flat hn hX hz k (Nat.le_of_lt hk)
  have hl : k + 1 ≤ (part xs z n k).flatten.length := by omega
  obtain ⟨h1, _⟩ := hrow.setCells [u] k hl
  have := part_splice hn hX hz k hk [u] hv
  rw [Nat.mul_one] at this
  rw [this] at h1
  exact ⟨⟨_, by rw [hrow.cell]; exact List.getElem?_eq_getElem hl⟩, hrow.frozen _, h1⟩

/-- a store of a struct into a row of structs -/
theorem wpl_store_part {P : Program} {ops : Array Oper} {rest : List Oper} {o : Oper} {a : Act} {w : World} {Q : Exit → Act → World → Prop} (hgd : o.guard = none) {T : TypeId} (x y : Operand) (ho : o.op = .store T x y) {m : Nat} (hm : (P.info? T).map (·.size) = some m)
    (g k n : Nat) (xs : List (List Value)) (z v : List Value) (hx : a.eval x = .pointer (some ⟨g, k * m, none⟩)) (hy : a.eval y = .agg v.toArray) (hrow : Row w g T (part xs z n k).flatten)
    (hK : ∀ w', Row w' g T (part xs z n (k + 1)).flatten → w.grownBy w' (some g) → wpList P ops Q rest (a.put o.dst undef) w')
    (hn : Hid (xs.length = n)) (hX : Hid (∀ r ∈ xs, r.length = m)) (hz : Hid (z.length = m)) (hk : Hid (k < n)) (hv : Hid (xs[k]? = some v)) (hone : Hid (v.all (·.oneCell') = true)) : wpList P ops Q (o :: rest) a w := by
  have hvl : v.length = m := hX.out v (List.mem_of_getElem? hv.out)
  have hfl := part_flat hn.out hX.out hz.out k (Nat.le_of_lt hk.out)
  have hkm : k * m + m ≤ n * m := by
    have : (k + 1) * m ≤ n * m := Nat.mul_le_mul_right _ hk.out
    rw [Nat.add_mul] at this
    omega
  obtain ⟨h1, h2⟩ := hrow.setCells v (k * m) (by omega)
  rw [part_splice hn.out hX.out hz.out k hk.out v hv.out] at h1
  exact wpList_store_mid hgd T x y ho g (k * m) v.toArray hx hy (by rw [List.size_toArray]; exact hrow.there _ _ (by omega)) (by rw [List.size_toArray, hvl]; exact hm) (by simpa using hone.out) (hK _ h1 h2)

theorem strInfo : (Try.prog.info? 9).map (fun i => (i.zero, i.size, i.bytes)) = some (some (.string ⟨#[]⟩), 1, 16) := by kernel_rfl
theorem acInfo : (Try.prog.info? 45).map (fun i => (i.zero, i.size, i.bytes)) = some (some (.agg ac0.cells.toArray), 4, 32) := by kernel_rfl
theorem trInfo : (Try.prog.info? 43).map (fun i => (i.zero, i.size, i.bytes)) = some (some (.agg tr0.cells.toArray), 4, 32) := by kernel_rfl
theorem u64Info : (Try.prog.info? 41).map (fun i => (i.zero, i.size, i.bytes)) = some (some (.int .u64 0), 1, 8) := by kernel_rfl
theorem tail_all {α : Type} {f : α → Bool} {l : List α} {k : Nat} (hk : k < l.length) (hs : f l[k] = false) : l.all f = false := by
  rw [List.all_eq_false]
  exact ⟨_, List.getElem_mem hk, by simp [hs]⟩
theorem head_all {α : Type} {f : α → Bool} {l : List α} (h : ∀ j (hj : j < l.length), f l[j] = true) : l.all f = true := by
  rw [List.all_eq_true]
  intro x hx
  obtain ⟨j, hj, rfl⟩ := List.getElem_of_mem hx
  exact h j hj
end Go.Proofs.Ytbofabmgfkploaa
