/-
  What the document's lists of layer 6 lean on.
-/
import Derived.Test.YtbofabmgfkploaaLists
namespace Go.Proofs.Ytbofabmgfkploaa
open Go.RowKit
set_option maxRecDepth 10000

theorem own_empty {w : World} {g B m : Nat} {T : TypeId} (h : Row w g T []) (hB : B ≤ g) : w.ownsRow B T m (.slice (some ⟨g, 0, none⟩) 0 0) 0 [] :=
  ⟨by simp, .inr ⟨g, 0, #[], rfl, hB, h, Nat.le_refl _, by simp, by simp, by simp⟩⟩
theorem own_rd {w : World} {B : Nat} {e : TypeId} {v : Value} {n m : Nat} {xs : List Value} (h : w.ownsRow B e m v n xs) : ∃ A c, v = .slice A n c ∧ n ≤ c ∧ Rd w w.heap.size A xs := by
  obtain ⟨h1, h2⟩ := h
  rcases h2 with ⟨rfl, h0⟩ | ⟨g, cap, cur, rfl, a, b, c, d, e1, f⟩
  · have hx : xs = [] := List.eq_nil_of_length_eq_zero (by rw [h1, h0, Nat.zero_mul])
    subst hx h0
    exact ⟨none, 0, rfl, Nat.le_refl _, Rd.nil⟩
  · refine ⟨_, cap, rfl, c, fun hne => ⟨g, 0, rfl, (Array.getElem?_eq_some_iff.1 b).1, fun j u hu => ?_⟩⟩
    rw [cell_of_row w g _ cur e (0, 0) b]
    rw [← f, List.getElem?_take] at hu
    split at hu
    · simpa using hu
    · cases hu

theorem at8_piece (n : Nat) (s : List UInt8) (k j : Nat) (h : j + 8 ≤ n) : at8 (piece n s k) j = at8 s (k * n + j) := by
  unfold at8 piece
  rw [List.drop_take, List.take_take, List.drop_drop, Nat.min_eq_left (by omega)]
/-- the first k pieces -/
def firstk {α : Type} (n : Nat) (d : List UInt8 → α) (s : List UInt8) (k : Nat) : List α := (List.range k).map fun i => d (piece n s i)
theorem firstk_len {α : Type} (n : Nat) (d : List UInt8 → α) (s : List UInt8) (k : Nat) : (firstk n d s k).length = k := by simp [firstk]
theorem firstk_succ {α : Type} (n : Nat) (d : List UInt8 → α) (s : List UInt8) (k : Nat) : firstk n d s (k + 1) = firstk n d s k ++ [d (piece n s k)] := by simp [firstk, List.range_succ]
theorem rows_firstk {α : Type} (C : α → List Value) (n : Nat) (d : List UInt8 → α) (s : List UInt8) (k : Nat) : rows C (firstk n d s (k + 1)) = rows C (firstk n d s k) ++ C (d (piece n s k)) := by
  rw [firstk_succ, rows_app]
  simp [rows]
theorem takL_yes {α : Type} (n : Nat) (d : List UInt8 → α) (s : List UInt8) (h1 : s.length % n = 0) (h2 : 1 ≤ s.length / n) (h4 : s.length / n ≤ 4) : takL n d s = (firstk n d s (s.length / n), true) := by
  unfold takL
  rw [if_neg (by omega)]
  rfl
theorem takL_no {α : Type} (n : Nat) (d : List UInt8 → α) (s : List UInt8) (h : s.length % n ≠ 0 ∨ ¬ (1 ≤ s.length / n ∧ s.length / n ≤ 4)) : takL n d s = ([], false) := by
  unfold takL
  rw [if_pos (by omega)]
/-- the bytes of the first k -/
def pre {α : Type} (f : α → Option (List UInt8)) (l : List α) (k : Nat) : List UInt8 := (l.take k).flatMap (fun x => (f x).getD [])
theorem pre_succ {α : Type} (f : α → Option (List UInt8)) (l : List α) (k : Nat) (h : k < l.length) : pre f l (k + 1) = pre f l k ++ (f l[k]).getD [] := by
  unfold pre
  rw [List.take_succ_eq_append_getElem h, List.flatMap_append, List.flatMap_cons, List.flatMap_nil, List.append_nil]
theorem pre_len {α : Type} (f : α → Option (List UInt8)) (l : List α) (m : Nat) (hm : ∀ x, ((f x).getD []).length ≤ m) (k : Nat) : (pre f l k).length ≤ k * m := by
  have key : ∀ r : List α, (r.flatMap (fun x => (f x).getD [])).length ≤ r.length * m := by
    intro r
    induction r with
    | nil => simp
    | cons x r ih =>
      have := hm x
      rw [List.flatMap_cons, List.length_append, List.length_cons, Nat.add_mul]
      omega
  have h1 := key (l.take k)
  have h2 : (l.take k).length * m ≤ k * m := Nat.mul_le_mul_right _ (by rw [List.length_take]; omega)
  unfold pre
  omega
end Go.Proofs.Ytbofabmgfkploaa
