/-
  Lists of superblocks in memory.
-/
import Derived.Test.YtogchfpecbmocaaRw
import Derived.Test.YtogchfpecbmocaaM19
import Derived.Deep.AppendLies
import Derived.Deep.MidRow
import Derived.BigFrame
namespace Go.Proofs.Ytogchfpecbmocaa
open Go.RowKit
set_option maxRecDepth 10000

/-- a list's cells -/
def rows {α : Type} (C : α → List Value) (l : List α) : List Value := (l.map C).flatten
section
variable {α : Type} {C : α → List Value} {n : Nat}
theorem rows_len (h : ∀ x, (C x).length = n) (l : List α) : (rows C l).length = l.length * n := by
  unfold rows
  rw [flat_length n _ (by intro r hr; obtain ⟨x, _, rfl⟩ := List.mem_map.1 hr; exact h x), List.length_map]
theorem rows_get (h : ∀ x, (C x).length = n) (l : List α) (i j : Nat) (hi : i < l.length) (hj : j < n) : (rows C l)[i * n + j]? = (C l[i])[j]? := by
  unfold rows
  rw [flat_get n _ i j (by intro r hr; obtain ⟨x, _, rfl⟩ := List.mem_map.1 hr; exact h x) hj, List.getElem?_map, List.getElem?_eq_getElem hi]
  rfl
theorem rows_one {l : List α} (h : ∀ x, ∀ u ∈ C x, u.oneCell' = true) : ∀ u ∈ rows C l, u.oneCell' = true := by
  intro u hu
  obtain ⟨r, hr, hu⟩ := List.mem_flatten.1 hu
  obtain ⟨x, _, rfl⟩ := List.mem_map.1 hr
  exact h x u hu
theorem rows_app (l m : List α) : rows C (l ++ m) = rows C l ++ rows C m := by simp [rows]
theorem rows_take (h : ∀ x, (C x).length = n) : ∀ (l : List α) (k : Nat), rows C (l.take k) = (rows C l).take (k * n)
  | [], k => by simp [rows]
  | x :: l, 0 => by simp [rows]
  | x :: l, k + 1 => by
    have := rows_take h l k
    simp only [rows, List.take_succ_cons, List.map_cons, List.flatten_cons] at this ⊢
    have e : (k + 1) * n = (C x).length + k * n := by rw [h x, Nat.add_mul]; omega
    rw [this, e, List.take_length_add_append]
end
section
variable {w w' w'' : World} {r : Option Nat}
end

section
variable {xs : List (List Value)} {z : List Value} {n m : Nat}
end

theorem Rd.range {α : Type} {C : α → List Value} {w : World} {B g o n : Nat} {l : List α} (h : Rd w B (some ⟨g, o, none⟩) (rows C l)) (hC : ∀ x, (C x).length = n) (k : Nat) (hk : k < l.length) : w.rangeAt g (o + k * n) (C l[k]) := fun j v hv => by
  have hj : j < n := by rw [← hC l[k]]; exact (List.getElem?_eq_some_iff.1 hv).1
  have hget := rows_get hC l k j hk hj
  obtain ⟨g', o', e, _, hc⟩ := h (by intro e; rw [e] at hget; rw [hv] at hget; simp at hget)
  cases e
  rw [Nat.add_assoc]
  exact hc _ _ (hget.trans hv)
theorem own_empty {w : World} {g B m : Nat} {T : TypeId} (h : Row w g T []) (hB : B ≤ g) : w.ownsRow B T m (.slice (some ⟨g, 0, none⟩) 0 0) 0 [] :=
  ⟨by simp, .inr ⟨g, 0, #[], rfl, hB, h, Nat.le_refl _, by simp, by simp, by simp⟩⟩
theorem own_rd {w : World} {B : Nat} {e : TypeId} {v : Value} {n m : Nat} {xs : List Value} (h : w.ownsRow B e m v n xs) : ∃ A c, v = .slice A n c ∧ n ≤ c ∧ Rd w w.heap.size A xs := by
  obtain ⟨h1, h2⟩ := h
  rcases h2 with ⟨rfl, h0⟩ | ⟨g, cap, cur, rfl, a, b, c, d, e1, f⟩
  · have hx : xs = [] := List.eq_nil_of_length_eq_zero (by rw [h1, h0, Nat.zero_mul])
    subst hx h0
    exact ⟨none, 0, rfl, Nat.le_refl _, Rd.nil⟩
  · refine ⟨_, cap, rfl, c, fun hne => ⟨g, 0, rfl, (Array.getElem?_eq_some_iff.1 b).1, fun j u hu => ?_⟩⟩
    rw [cell_of_row w g _ cur e (0, 0) b]
    rw [← f, List.getElem?_take] at hu
    split at hu
    · simpa using hu
    · cases hu
/-- []T{x}, x a value of many cells, as a step of the walk -/
theorem wpl_slice1 {P : Program} {ops : Array Oper} {rest : List Oper} {o : Oper} {a : Act} {w : World} {Q : Exit → Act → World → Prop} (hgd : o.guard = none) (t e : TypeId) (x : Operand) (ho : o.op = .buildSlice t 1 #[(0, x)])
    (ie : TypeInfo) (z : Value) (size : Nat) (hu : P.underlying t = some (.slice e)) (hie : P.info? e = some ie) (hz : ie.zero = some z) (hs : ie.size = size) (hpos : 0 < size) (hsmall : size ≤ 16777216)
    (cs : List Value) (hx : a.eval x = .agg cs.toArray) (hl : cs.length = size)
    (h : wpList P ops Q rest (a.put o.dst (.slice (some ⟨w.heap.size, 0, none⟩) 1 1)) (w.alloc (.cells cs.toArray e))) : wpList P ops Q (o :: rest) a w :=
  wpList_plain hgd fun _ hK => wp_slice1 t e x ho ie z size hu hie hz hs hpos hsmall cs hx hl (hK _ _ h)
theorem rows1 {α : Type} (C : α → List Value) (x : α) : rows C [x] = C x := by simp [rows]
theorem range_of {α : Type} {C : α → List Value} {w : World} {B g o m : Nat} {l : List α} (h : Rd w B (some ⟨g, o, none⟩) (rows C l)) (hC : ∀ x, (C x).length = m) {k : Nat} (hk : k < l.length) : w.rangeAt g (o + k * m) (C l[k]) := h.range hC k hk
theorem shape_of {α : Type} {C : α → List Value} {w : World} {B m : Nat} {A : Option Addr} {l : List α} (h : Rd w B A (rows C l)) (hC : ∀ x, (C x).length = m) (hm : 0 < m) (hl : 0 < l.length) : ∃ g o, A = some ⟨g, o, none⟩ := by
  obtain ⟨g, o, e, _⟩ := h (by
    intro e
    have h1 := rows_len hC l
    rw [e] at h1
    have h2 : 0 < l.length * m := Nat.mul_pos hl hm
    simp at h1
    omega)
  exact ⟨g, o, e⟩

def SC (s : Su) : List Value := s.cells.toList
theorem SC_len (s : Su) : (SC s).length = 17 := rfl
/-- what the first k copies have, those that can be read -/
def RL (S : Sp) : Nat → List Su
  | 0 => []
  | k + 1 => if SR (hasU (S.read k).1) then RL S k ++ [hasU (S.read k).1] else RL S k
theorem RL_le (S : Sp) : ∀ k, (RL S k).length ≤ k
  | 0 => Nat.le_refl _
  | k + 1 => by
    have := RL_le S k
    rw [RL]
    split
    · rw [List.length_append]; simp; omega
    · omega
theorem RL_sr (S : Sp) : ∀ k, ∀ x ∈ RL S k, SR x
  | 0, _, h => by simp [RL] at h
  | k + 1, x, h => by
    rw [RL] at h
    split at h
    · rename_i hs
      rcases List.mem_append.1 h with h | h
      · exact RL_sr S k x h
      · rw [List.mem_singleton.1 h]; exact hs
    · exact RL_sr S k x h
/-- the newest so far -/
def bst (l : List Su) (d : Su) : Nat → Su
  | 0 => l.getD 0 d
  | k + 1 => if (bst l d k).seq < (l.getD k d).seq then l.getD k d else bst l d k
/-- how many of the first k are b -/
def cn (l : List Su) (d b : Su) : Nat → Nat
  | 0 => 0
  | k + 1 => if l.getD k d = b then cn l d b k + 1 else cn l d b k
theorem cn_le (l : List Su) (d b : Su) : ∀ k, cn l d b k ≤ k
  | 0 => Nat.le_refl _
  | k + 1 => by
    have := cn_le l d b k
    rw [cn]
    split <;> omega
theorem bst_app (l : List Su) (d x : Su) (hl : 0 < l.length) : ∀ k, k ≤ l.length → bst (l ++ [x]) d k = bst l d k
  | 0, _ => by
    unfold bst
    rw [List.getD_eq_getElem?_getD, List.getD_eq_getElem?_getD, List.getElem?_append_left hl]
  | k + 1, hk => by
    have e : (l ++ [x]).getD k d = l.getD k d := by rw [List.getD_eq_getElem?_getD, List.getD_eq_getElem?_getD, List.getElem?_append_left (by omega)]
    rw [bst, bst, bst_app l d x hl k (by omega), e]
theorem cn_app (l : List Su) (d b x : Su) : ∀ k, k ≤ l.length → cn (l ++ [x]) d b k = cn l d b k
  | 0, _ => rfl
  | k + 1, hk => by
    have e : (l ++ [x]).getD k d = l.getD k d := by rw [List.getD_eq_getElem?_getD, List.getD_eq_getElem?_getD, List.getElem?_append_left (by omega)]
    rw [cn, cn, cn_app l d b x k (by omega), e]
theorem bst_ge (l : List Su) (d : Su) : ∀ k i, i < k → (l.getD i d).seq ≤ (bst l d k).seq
  | 0, i, h => by omega
  | k + 1, i, h => by
    rw [bst]
    by_cases e : i = k
    · subst e
      split
      · exact Int.le_refl _
      · omega
    · have := bst_ge l d k i (by omega)
      split <;> omega
theorem cn_none (l : List Su) (d b : Su) : ∀ k, (∀ i, i < k → l.getD i d ≠ b) → cn l d b k = 0
  | 0, _ => rfl
  | k + 1, h => by rw [cn, if_neg (h k (by omega)), cn_none l d b k fun i hi => h i (by omega)]
theorem bst_mem (l : List Su) (d : Su) (hl : 0 < l.length) : ∀ k, k ≤ l.length → bst l d k ∈ l
  | 0, _ => by
    unfold bst
    rw [List.getD_eq_getElem?_getD, List.getElem?_eq_getElem hl]
    exact List.getElem_mem hl
  | k + 1, hk => by
    have h1 := bst_mem l d hl k (by omega)
    have h2 : l.getD k d ∈ l := by
      rw [List.getD_eq_getElem?_getD, List.getElem?_eq_getElem (show k < l.length by omega)]
      exact List.getElem_mem _
    rw [bst]
    split
    · exact h2
    · exact h1
theorem su_ne' {s : Su} (hs : SR s) : su0 ≠ s := fun e => su0_not (e ▸ hs)
/-- the list tells what the copies told -/
theorem rdK_list (S : Sp) (d : Su) (he : ∀ k : Nat, k < 4 → (S.read k).2 = 0) : ∀ k, k ≤ 4 → (rdK S k).2.2 = 0 ∧ ((RL S k = [] ∧ (rdK S k).1 = su0) ∨ (RL S k ≠ [] ∧ (rdK S k).1 = bst (RL S k) d (RL S k).length ∧ (rdK S k).2.1 = cn (RL S k) d (rdK S k).1 (RL S k).length))
  | 0, _ => ⟨rfl, .inl ⟨rfl, rfl⟩⟩
  | k + 1, hk => by
    obtain ⟨h0, h⟩ := rdK_list S d he k (by omega)
    have e : rdK S (k + 1) = ((stepU ((rdK S k).1, (rdK S k).2.1) (hasU (S.read k).1)).1, (stepU ((rdK S k).1, (rdK S k).2.1) (hasU (S.read k).1)).2, 0) := by
      rw [rdK, h0, he k (by omega)]
      simp
    have hsu := hasU_sr (S.read k).1
    rw [e]
    refine ⟨rfl, ?_⟩
    rw [RL]
    generalize hasU (S.read k).1 = x at *
    have hl := RL_sr S k
    generalize RL S k = l at *
    generalize (rdK S k).1 = b at *
    generalize (rdK S k).2.1 = n at *
    by_cases hx : SR x
    · rw [if_pos hx]
      right
      have hx1 : 1 ≤ x.seq := hx.1.1
      rcases h with ⟨rfl, rfl⟩ | ⟨hne, hb, hn⟩
      · have hs : stepU (su0, n) x = (x, 1) := by unfold stepU; rw [if_pos (by show (0 : Int) < x.seq; omega)]
        rw [hs]
        refine ⟨by simp, ?_, ?_⟩
        · show x = bst [x] d 1
          rw [bst, bst]
          simp
        · show 1 = cn [x] d x 1
          rw [cn, cn]
          simp
      · have hpos : 0 < l.length := List.length_pos_iff.2 hne
        refine ⟨by simp, ?_, ?_⟩
        · rw [List.length_append, List.length_singleton, bst, bst_app l d x hpos _ (Nat.le_refl _), ← hb]
          have e2 : (l ++ [x]).getD l.length d = x := by simp [List.getD_eq_getElem?_getD]
          rw [e2]
          unfold stepU
          split
          · rfl
          · split <;> rfl
        · rw [List.length_append, List.length_singleton, cn, cn_app _ _ _ _ _ (Nat.le_refl _)]
          have e2 : (l ++ [x]).getD l.length d = x := by simp [List.getD_eq_getElem?_getD]
          rw [e2]
          unfold stepU
          by_cases hlt : b.seq < x.seq
          · rw [if_pos hlt, if_pos rfl, cn_none l d x l.length fun i hi hix => by
              have := bst_ge l d l.length i hi
              rw [hix, ← hb] at this
              omega]
          · rw [if_neg hlt]
            by_cases hxb : x = b
            · rw [if_pos hxb]
              simp only
              rw [if_pos hxb, ← hn]
            · rw [if_neg hxb]
              simp only
              rw [if_neg hxb, ← hn]
    · rw [if_neg hx]
      have hx0 : x = su0 := hsu.resolve_right hx
      subst hx0
      rcases h with ⟨rfl, rfl⟩ | ⟨hne, hb, hn⟩
      · left
        refine ⟨rfl, ?_⟩
        unfold stepU
        rw [if_neg (by simp), if_pos rfl]
      · right
        have hpos : 0 < l.length := List.length_pos_iff.2 hne
        have hbs : SR b := by rw [hb]; exact hl _ (bst_mem l d hpos _ (Nat.le_refl _))
        have hb1 : 1 ≤ b.seq := hbs.1.1
        have hs : stepU (b, n) su0 = (b, n) := by
          unfold stepU
          rw [if_neg (by show ¬ b.seq < 0; omega), if_neg (su_ne' hbs)]
        rw [hs]
        exact ⟨hne, hb, hn⟩
end Go.Proofs.Ytogchfpecbmocaa
