/-
  Lists of structs that a call makes.
-/
import Derived.Test.YteahbalcielhpaaGreatDoorZ12
import Derived.Great.BuildSlice
import Derived.BigFrame
namespace Go.Proofs.YteahbalcielhpaaGreatDoor
open Go.RowKit
set_option maxRecDepth 10000

theorem foldl_setM (l : List Value) : ∀ (k : Nat) (cs : Array Value), k + l.length ≤ cs.size →
    ((l.zipIdx k).foldl (fun (cs : Array Value) (x : Value × Nat) => cs.setIfInBounds x.2 x.1) cs).toList = splice cs.toList k l := by
  induction l with
  | nil => intro k cs _; simp [splice]
  | cons v r ih =>
    intro k cs h
    simp only [List.length_cons] at h
    rw [List.zipIdx_cons, List.foldl_cons, ih (k + 1) _ (by simp; omega)]
    simp only [splice, Array.toList_setIfInBounds, List.length_cons]
    have hk : k < cs.toList.length := by simp; omega
    rw [List.drop_set_of_lt (by omega)]
    have e1 : (cs.toList.set k v).take (k + 1) = cs.toList.take k ++ [v] := by
      rw [List.take_succ_eq_append_getElem (by simpa using hk), List.take_set_of_le (Nat.le_refl _)]
      simp
    rw [e1, List.append_assoc]
    simp [Nat.add_assoc, Nat.add_comm 1]
/-- one part that fills all -/
theorem fill_oneM (place : Nat → Option (Nat × Nat)) (n : Nat) (cs : Array Value) (vs : List Value) (hp : place 0 = some (0, n)) (hn : vs.length = n) (hc : cs.size = n) :
    Instr.fill place cs [(0, .agg vs.toArray)] = some vs.toArray := by
  subst hn
  have hz : (vs.zipIdx 0).foldl (fun (cs : Array Value) (x : Value × Nat) => cs.setIfInBounds (0 + x.2) x.1) cs = vs.toArray := by
    apply Array.toList_inj.1
    have := foldl_setM vs 0 cs (by omega)
    simp only [Nat.zero_add]
    rw [this]
    simp [splice, List.drop_eq_nil_of_le, hc]
  simp only [Nat.zero_add] at hz
  simp [Instr.fill, hp, Value.cells, hc]
  exact hz
/-- []T{x}, x a value of many cells -/
theorem wp_slice1M {P : Program} {o : Oper} {a : Act} {w : World} {K : Act → World → Prop} {Q : Exit → Act → World → Prop} (t e : TypeId) (x : Operand) (ho : o.op = .buildSlice t 1 #[(0, x)])
    (ie : TypeInfo) (z : Value) (size : Nat) (hu : P.underlying t = some (.slice e)) (hie : P.info? e = some ie) (hz : ie.zero = some z) (hs : ie.size = size) (hpos : 0 < size) (hsmall : size ≤ 16777216)
    (cs : List Value) (hx : a.eval x = .agg cs.toArray) (hl : cs.length = size)
    (h : K (a.put o.dst (.slice (some ⟨w.heap.size, 0, none⟩) 1 1)) (w.alloc (.cells cs.toArray e))) : o.wp P a w K Q := by
  refine wp_buildSlice t e 1 _ ho cs.toArray ie z hu hie hz (by rw [hs]; omega) (by rw [hs]; omega) ?_ h
  have e1 : (Array.map (fun (y : Nat × Operand) => (y.1, a.eval y.2)) #[(0, x)]).toList = [(0, a.eval x)] := by simp
  refine Eq.trans (congrArg _ e1) ?_
  rw [hx]
  exact fill_oneM _ size _ _ (by rw [hs]; simp) hl (by rw [Array.size_map, Array.size_range, hs, Nat.one_mul])
theorem own_emptyM {w : World} {g B m : Nat} {T : TypeId} (h : Row w g T []) (hB : B ≤ g) : w.ownsRow B T m (.slice (some ⟨g, 0, none⟩) 0 0) 0 [] :=
  ⟨by simp, .inr ⟨g, 0, #[], rfl, hB, h, Nat.le_refl _, by simp, by simp, by simp⟩⟩
theorem own_rdM {w : World} {B : Nat} {e : TypeId} {v : Value} {n m : Nat} {xs : List Value} (h : w.ownsRow B e m v n xs) : ∃ A c, v = .slice A n c ∧ n ≤ c ∧ Rd w w.heap.size A xs := by
  obtain ⟨h1, h2⟩ := h
  rcases h2 with ⟨rfl, h0⟩ | ⟨g, cap, cur, rfl, a, b, c, d, e1, f⟩
  · have hx : xs = [] := List.eq_nil_of_length_eq_zero (by rw [h1, h0, Nat.zero_mul])
    subst hx h0
    exact ⟨none, 0, rfl, Nat.le_refl _, Rd.nil⟩
  · refine ⟨_, cap, rfl, c, fun hne => ⟨g, 0, rfl, (Array.getElem?_eq_some_iff.1 b).1, fun j u hu => ?_⟩⟩
    rw [cell_of_row w g _ cur e (0, 0) b]
    rw [← f, List.getElem?_take] at hu
    split at hu
    · simpa using hu
    · cases hu
/-- []T{x}, x a value of many cells, as a step of the walk -/
theorem wpl_slice1M {P : Program} {ops : Array Oper} {rest : List Oper} {o : Oper} {a : Act} {w : World} {Q : Exit → Act → World → Prop} (hgd : o.guard = none) (t e : TypeId) (x : Operand) (ho : o.op = .buildSlice t 1 #[(0, x)])
    (ie : TypeInfo) (z : Value) (size : Nat) (hu : P.underlying t = some (.slice e)) (hie : P.info? e = some ie) (hz : ie.zero = some z) (hs : ie.size = size) (hpos : 0 < size) (hsmall : size ≤ 16777216)
    (cs : List Value) (hx : a.eval x = .agg cs.toArray) (hl : cs.length = size)
    (h : wpList P ops Q rest (a.put o.dst (.slice (some ⟨w.heap.size, 0, none⟩) 1 1)) (w.alloc (.cells cs.toArray e))) : wpList P ops Q (o :: rest) a w :=
  wpList_plain hgd fun _ hK => wp_slice1M t e x ho ie z size hu hie hz hs hpos hsmall cs hx hl (hK _ _ h)
theorem own_belowM {w w' : World} {B : Nat} {e : TypeId} {size n : Nat} {v : Value} {xs : List Value} (h : w.ownsRow B e size v n xs) (hb : Below w.heap.size w w') : w'.ownsRow B e size v n xs := by
  obtain ⟨h1, h2⟩ := h
  refine ⟨h1, ?_⟩
  rcases h2 with h2 | ⟨g, cap, cur, hv, hg, hh, r⟩
  · exact .inl h2
  · exact .inr ⟨g, cap, cur, hv, hg, by rw [hb.block g (Array.getElem?_eq_some_iff.1 hh).1]; exact hh, r⟩
theorem own_allocM {w : World} {B e size n : Nat} {v : Value} {xs : List Value} (h : w.ownsRow B e size v n xs) (o : Obj) : (w.alloc o).ownsRow B e size v n xs := own_belowM h ((Below.refl _ _).alloc (Nat.le_refl _) o)
theorem infoEn : (Tryz.prog.info? 35).map (fun i => (i.zero, i.size, i.bytes)) = some (some (.agg en0.cells), 9, 80) := by kernel_rfl
theorem infoIt : (Tryz.prog.info? 40).map (fun i => (i.zero, i.size, i.bytes)) = some (some (.agg it0.cells), 15, 128) := by kernel_rfl
theorem rws_app {α : Type} (C : α → List Value) (l m : List α) : rws C (l ++ m) = rws C l ++ rws C m := by simp [rws]
theorem rws_one {α : Type} (C : α → List Value) (x : α) : rws C [x] = C x := by simp [rws]
theorem en_one (e : En) : ∀ u ∈ e.cells.toList, u.oneCell' = true := by
  have := ecells_one e
  rw [Array.all_eq_true'] at this
  intro u hu
  exact this u (by simpa using hu)
theorem new_rdM (T : TypeId) (W : World) (X : List Value) : Rd (W.alloc (.cells X.toArray T)) (W.heap.size + 1) (some ⟨W.heap.size, 0, none⟩) X :=
  Row.rd (e := T) (by simpa using Row.new W T X.toArray) (Nat.lt_succ_self _)
end Go.Proofs.YteahbalcielhpaaGreatDoor
