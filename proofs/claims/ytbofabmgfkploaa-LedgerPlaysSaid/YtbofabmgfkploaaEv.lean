/-
  Plain words on events: accounts, transfers and ids as cells and as bytes; lists of them.
-/
import Derived.Test.YtbofabmgfkploaaRef2
import Derived.Test.YtbofabmgfkploaaFlat
namespace Go.Proofs.Ytbofabmgfkploaa
open Go.RowKit

structure Ac where
  id : Nat
  flags : Int
  deb : Nat
  cre : Nat
structure Tr where
  a : Nat
  b : Nat
  c : Nat
  d : Nat
def Ac.cells (x : Ac) : List Value := [.int .u64 (x.id : Int), .int .i64 x.flags, .int .u64 (x.deb : Int), .int .u64 (x.cre : Int)]
def Tr.cells (x : Tr) : List Value := [.int .u64 (x.a : Int), .int .u64 (x.b : Int), .int .u64 (x.c : Int), .int .u64 (x.d : Int)]
def Ic (n : Nat) : List Value := [.int .u64 (n : Int)]
def Sc (s : List UInt8) : List Value := [.string ⟨s.toArray⟩]
/-- a list's cells -/
def rows {α : Type} (C : α → List Value) (l : List α) : List Value := (l.map C).flatten
abbrev U64 (n : Nat) : Prop := n < 18446744073709551616
def Ac.ok (x : Ac) : Prop := U64 x.id ∧ (-9223372036854775808 ≤ x.flags ∧ x.flags ≤ 9223372036854775807) ∧ U64 x.deb ∧ U64 x.cre
def Tr.ok (x : Tr) : Prop := U64 x.a ∧ U64 x.b ∧ U64 x.c ∧ U64 x.d

section
variable {α : Type} {C : α → List Value} {n : Nat}
theorem rows_len (h : ∀ x, (C x).length = n) (l : List α) : (rows C l).length = l.length * n := by
  unfold rows
  rw [flat_length n _ (by intro r hr; obtain ⟨x, _, rfl⟩ := List.mem_map.1 hr; exact h x), List.length_map]
theorem rows_get (h : ∀ x, (C x).length = n) (l : List α) (i j : Nat) (hi : i < l.length) (hj : j < n) : (rows C l)[i * n + j]? = (C l[i])[j]? := by
  unfold rows
  rw [flat_get n _ i j (by intro r hr; obtain ⟨x, _, rfl⟩ := List.mem_map.1 hr; exact h x) hj, List.getElem?_map, List.getElem?_eq_getElem hi]
  rfl
theorem rows_one {l : List α} (h : ∀ x, ∀ u ∈ C x, u.oneCell' = true) : ∀ u ∈ rows C l, u.oneCell' = true := by
  intro u hu
  obtain ⟨r, hr, hu⟩ := List.mem_flatten.1 hu
  obtain ⟨x, _, rfl⟩ := List.mem_map.1 hr
  exact h x u hu
theorem rows_app (l m : List α) : rows C (l ++ m) = rows C l ++ rows C m := by simp [rows]
theorem rows_take (h : ∀ x, (C x).length = n) : ∀ (l : List α) (k : Nat), rows C (l.take k) = (rows C l).take (k * n)
  | [], k => by simp [rows]
  | x :: l, 0 => by simp [rows]
  | x :: l, k + 1 => by
    have := rows_take h l k
    simp only [rows, List.take_succ_cons, List.map_cons, List.flatten_cons] at this ⊢
    have e : (k + 1) * n = (C x).length + k * n := by rw [h x, Nat.add_mul]; omega
    rw [this, e, List.take_length_add_append]
end
theorem Ac.len (x : Ac) : x.cells.length = 4 := rfl
theorem Tr.len (x : Tr) : x.cells.length = 4 := rfl
theorem Ic_len (x : Nat) : (Ic x).length = 1 := rfl
theorem Sc_len (x : List UInt8) : (Sc x).length = 1 := rfl
theorem rows_Sc (l : List (List UInt8)) : rows Sc l = l.map fun s => .string ⟨s.toArray⟩ := by
  induction l with
  | nil => rfl
  | cons x r ih => simp only [rows, List.map_cons, List.flatten_cons] at ih ⊢; rw [ih]; rfl
theorem rows_Ic (l : List Nat) : rows Ic l = l.map fun (n : Nat) => .int .u64 (n : Int) := by
  induction l with
  | nil => rfl
  | cons x r ih => simp only [rows, List.map_cons, List.flatten_cons] at ih ⊢; rw [ih]; rfl

/-! ### as bytes -/
def askB (x : Ac) : Option (List UInt8) := if 0 ≤ x.flags ∧ x.flags ≤ 255 then some (le x.id 8 ++ [UInt8.ofNat x.flags.toNat]) else none
def trB (x : Tr) : Option (List UInt8) := some (le x.a 8 ++ le x.b 8 ++ le x.c 8 ++ le x.d 8)
def idB (x : Nat) : Option (List UInt8) := some (le x 8)
/-- a list's bytes -/
def putL {α : Type} (f : α → Option (List UInt8)) (l : List α) : List UInt8 × Int :=
  if l.length = 0 ∨ 4 < l.length then ([], 1) else if l.all (fun x => (f x).isSome) then (l.flatMap (fun x => (f x).getD []), 0) else ([], 1)
def wholeB (x : Ac) : List UInt8 × Int := if 0 ≤ x.flags ∧ x.flags ≤ 255 then (le x.id 8 ++ [UInt8.ofNat x.flags.toNat] ++ le x.deb 8 ++ le x.cre 8, 0) else ([], 1)

/-- the number of eight bytes from a place on -/
def at8 (s : List UInt8) (i : Nat) : Nat := leV ((s.drop i).take 8)
def decA (p : List UInt8) : Ac := ⟨at8 p 0, (p.getD 8 0).toNat, 0, 0⟩
def decT (p : List UInt8) : Tr := ⟨at8 p 0, at8 p 8, at8 p 16, at8 p 24⟩
def decI (p : List UInt8) : Nat := at8 p 0
def decW (p : List UInt8) : Ac := ⟨at8 p 0, (p.getD 8 0).toNat, at8 p 9, at8 p 17⟩
def ac0 : Ac := ⟨0, 0, 0, 0⟩
def tr0 : Tr := ⟨0, 0, 0, 0⟩
/-- the i-th piece of n bytes -/
def piece (n : Nat) (s : List UInt8) (i : Nat) : List UInt8 := (s.drop (i * n)).take n
/-- the list of bytes -/
def takL {α : Type} (n : Nat) (d : List UInt8 → α) (s : List UInt8) : List α × Bool :=
  if s.length % n ≠ 0 ∨ s.length / n < 1 ∨ 4 < s.length / n then ([], false) else ((List.range (s.length / n)).map (fun i => d (piece n s i)), true)
def wholeS (s : List UInt8) : Ac × Bool := if s.length = 25 then (decW s, true) else (ac0, false)

/-- bytes cut up: at most k pieces -/
def pcs (n : Nat) : Nat → List UInt8 → List (List UInt8)
  | 0, _ => []
  | k + 1, s => if s = [] then [] else s.take n :: pcs n k (s.drop n)
/-- what the pieces are -/
def eachT {α : Type} (n : Nat) (d : List UInt8 → α) (P : List (List UInt8)) : List α × Bool :=
  if P.length = 0 ∨ 4 < P.length then ([], false) else if P.all (fun p => p.length = n) then (P.map d, true) else ([], false)

theorem pcs_le (n : Nat) : ∀ k s, (pcs n k s).length ≤ k
  | 0, _ => by simp [pcs]
  | k + 1, s => by
    unfold pcs
    split
    · simp
    · have := pcs_le n k (s.drop n); simp; omega
/-- whole pieces -/
theorem pcs_whole (n : Nat) (h : 0 < n) : ∀ (k q : Nat) (s : List UInt8), s.length = q * n → q ≤ k → pcs n k s = (List.range q).map (piece n s)
  | 0, q, s, _, hq => by
    obtain rfl : q = 0 := by omega
    rfl
  | k + 1, 0, s, hs, _ => by
    have : s = [] := List.eq_nil_of_length_eq_zero (by simpa using hs)
    subst this
    simp [pcs]
  | k + 1, q + 1, s, hs, hq => by
    have hne : s ≠ [] := by
      intro e
      subst e
      rw [Nat.add_mul] at hs
      simp at hs
      omega
    have hd : (s.drop n).length = q * n := by rw [List.length_drop, hs, Nat.add_mul]; omega
    rw [pcs, if_neg hne, pcs_whole n h k q (s.drop n) hd (by omega), List.range_succ_eq_map, List.map_cons, List.map_map]
    congr 1
    · simp [piece]
    · apply List.map_congr_left
      intro i _
      simp only [piece, Function.comp, List.drop_drop]
      congr 2
      rw [Nat.succ_mul]
      omega
/-- the pieces are not all whole, or they are too many -/
theorem pcs_broken (n : Nat) (h : 0 < n) : ∀ (k : Nat) (s : List UInt8), s.length % n ≠ 0 → (pcs n k s).length < k → (pcs n k s).all (fun p => p.length = n) = false
  | 0, s, _, hl => by simp at hl
  | k + 1, s, hs, hl => by
    have hne : s ≠ [] := by
      intro e
      subst e
      simp at hs
    rw [pcs, if_neg hne] at hl ⊢
    simp only [List.length_cons] at hl
    rw [List.all_cons]
    by_cases hn : s.length < n
    · have : ¬ (s.take n).length = n := by rw [List.length_take]; omega
      rw [decide_eq_false this, Bool.false_and]
    · have hd : (s.drop n).length % n ≠ 0 := by
        rw [List.length_drop]
        intro e
        apply hs
        rw [← Nat.sub_add_cancel (Nat.le_of_not_lt hn), Nat.add_mod_right]
        exact e
      rw [pcs_broken n h k (s.drop n) hd (by omega), Bool.and_false]
theorem pcs_full (n : Nat) (h : 0 < n) : ∀ (k : Nat) (s : List UInt8), k * n ≤ s.length + (n - 1) → (pcs n k s).length = k
  | 0, s, _ => rfl
  | k + 1, s, hs => by
    rw [Nat.add_mul] at hs
    have hne : s ≠ [] := by
      intro e
      subst e
      simp at hs
      omega
    rw [pcs, if_neg hne, List.length_cons, pcs_full n h k (s.drop n) (by rw [List.length_drop]; omega)]

theorem eachT_pcs {α : Type} (n : Nat) (h : 0 < n) (d : List UInt8 → α) (s : List UInt8) : eachT n d (pcs n 5 s) = takL n d s := by
  unfold takL
  have hdm := Nat.div_add_mod s.length n
  by_cases h1 : s.length % n = 0
  · have hq : s.length = s.length / n * n := by rw [Nat.mul_comm]; omega
    by_cases h2 : s.length / n < 1 ∨ 4 < s.length / n
    · rw [if_pos (.inr h2)]
      unfold eachT
      rcases h2 with h2 | h2
      · have h0 : s.length / n = 0 := Nat.lt_one_iff.1 h2
        have : s = [] := List.eq_nil_of_length_eq_zero (by rw [hq, h0, Nat.zero_mul])
        subst this
        rfl
      · have : (pcs n 5 s).length = 5 := pcs_full n h 5 s (by
          have : 5 * n ≤ s.length / n * n := Nat.mul_le_mul_right _ (by omega)
          omega)
        rw [if_pos (.inr (by omega))]
    · generalize s.length / n = q at *
      rw [if_neg (by omega), pcs_whole n h 5 q s hq (by omega)]
      unfold eachT
      rw [if_neg (by rw [List.length_map, List.length_range]; omega), if_pos, List.map_map]
      · rfl
      · rw [List.all_eq_true]
        intro p hp
        obtain ⟨i, hi, rfl⟩ := List.mem_map.1 hp
        have hi := List.mem_range.1 hi
        have : (i + 1) * n ≤ q * n := Nat.mul_le_mul_right _ hi
        rw [Nat.add_mul] at this
        simp only [piece, List.length_take, List.length_drop, decide_eq_true_eq]
        omega
  · rw [if_pos (.inl h1)]
    unfold eachT
    split
    · rfl
    · rw [if_neg]
      have := pcs_broken n h 5 s h1 (by omega)
      rw [this]
      simp
/-- what was laid is taken -/
theorem takL_flat {α : Type} (n : Nat) (h : 0 < n) (d : List UInt8 → α) (b : α → List UInt8) (l : List α) (hb : ∀ x ∈ l, (b x).length = n) (h1 : 1 ≤ l.length) (h4 : l.length ≤ 4) : takL n d (l.flatMap b) = (l.map fun x => d (b x), true) := by
  have hlen : ∀ m : List α, (∀ x ∈ m, (b x).length = n) → (m.flatMap b).length = m.length * n := by
    intro m
    induction m with
    | nil => intro _; simp
    | cons x r ih =>
      intro hm
      rw [List.flatMap_cons, List.length_append, ih (fun y hy => hm y (by simp [hy])), hm x (by simp), List.length_cons, Nat.add_mul]
      omega
  have hL := hlen l hb
  unfold takL
  rw [hL, Nat.mul_mod_left, Nat.mul_div_cancel _ h, if_neg (by omega)]
  congr 1
  apply List.ext_getElem?
  intro i
  rw [List.getElem?_map, List.getElem?_map]
  by_cases hi : i < l.length
  · rw [List.getElem?_range hi, List.getElem?_eq_getElem hi]
    simp only [Option.map_some]
    congr 2
    have e : l = l.take i ++ l[i] :: l.drop (i + 1) := by rw [← List.drop_eq_getElem_cons hi, List.take_append_drop]
    have ht : ((l.take i).flatMap b).length = i * n := by rw [hlen _ (fun x hx => hb x (List.mem_of_mem_take hx)), List.length_take, Nat.min_eq_left (by omega)]
    unfold piece
    conv => lhs; rw [e]
    rw [List.flatMap_append, List.flatMap_cons, ← ht, List.drop_left, ← hb l[i] (List.getElem_mem hi), List.take_left]
  · rw [List.getElem?_eq_none (by simp; omega), List.getElem?_eq_none (by omega)]
    rfl
/-- at the end of the bytes, of an account, a transfer, an id -/
theorem at8_le (n : Nat) (r : List UInt8) (h : U64 n) : at8 (le n 8 ++ r) 0 = n := by
  unfold at8
  rw [List.drop_zero, List.take_append_of_le_length (by rw [le_len]; omega), List.take_of_length_le (by rw [le_len]; omega)]
  have key : ∀ k m, leV (le m k) = m % 2 ^ (8 * k) := by
    intro k
    induction k with
    | zero => intro m; simp [le, leV, Nat.mod_one]
    | succ k ih =>
      intro m
      rw [le, leV, ih, show 8 * (k + 1) = 8 + 8 * k by omega, Nat.pow_add, Nat.mod_mul]
      simp
  rw [key]
  exact Nat.mod_eq_of_lt (by simpa using h)
theorem at8_drop (p r : List UInt8) (i k : Nat) (h : p.length = k) : at8 (p ++ r) (k + i) = at8 r i := by
  subst h
  unfold at8
  rw [← List.drop_drop, List.drop_left]
theorem decI_le (n : Nat) (h : U64 n) : decI ((idB n).getD []) = n := by
  have := at8_le n [] h
  simpa [decI, idB] using this
theorem decT_le (x : Tr) (h : x.ok) : decT ((trB x).getD []) = x := by
  obtain ⟨a, b, c, d⟩ := x
  obtain ⟨h1, h2, h3, h4⟩ := h
  have e1 : at8 (le a 8 ++ le b 8 ++ le c 8 ++ le d 8) 0 = a := by rw [List.append_assoc, List.append_assoc]; exact at8_le a _ h1
  have e2 : at8 (le a 8 ++ le b 8 ++ le c 8 ++ le d 8) 8 = b := by
    rw [List.append_assoc, List.append_assoc, show (8 : Nat) = 8 + 0 from rfl, at8_drop (le a (8 + 0)) _ 0 (8 + 0) (le_len _ _)]
    exact at8_le b _ h2
  have e3 : at8 (le a 8 ++ le b 8 ++ le c 8 ++ le d 8) 16 = c := by
    rw [List.append_assoc (le a 8 ++ le b 8)]
    exact (at8_drop (le a 8 ++ le b 8) (le c 8 ++ le d 8) 0 16 (by rw [List.length_append, le_len, le_len])).trans (at8_le c _ h3)
  have e4 : at8 (le a 8 ++ le b 8 ++ le c 8 ++ le d 8) 24 = d := by
    refine (at8_drop (le a 8 ++ le b 8 ++ le c 8) (le d 8) 0 24 (by rw [List.length_append, List.length_append, le_len, le_len, le_len])).trans ?_
    have := at8_le d [] h4
    rwa [List.append_nil] at this
  show Tr.mk (at8 (le a 8 ++ le b 8 ++ le c 8 ++ le d 8) 0) (at8 (le a 8 ++ le b 8 ++ le c 8 ++ le d 8) 8) (at8 (le a 8 ++ le b 8 ++ le c 8 ++ le d 8) 16) (at8 (le a 8 ++ le b 8 ++ le c 8 ++ le d 8) 24) = _
  rw [e1, e2, e3, e4]
/-- an account without its sums -/
def strip (x : Ac) : Ac := ⟨x.id, x.flags, 0, 0⟩
theorem flag_back (f : Int) (h : 0 ≤ f ∧ f ≤ 255) : ((UInt8.ofNat f.toNat).toNat : Int) = f := by
  rw [UInt8.toNat_ofNat']
  omega
theorem decA_le (x : Ac) (h : x.ok) (hf : 0 ≤ x.flags ∧ x.flags ≤ 255) : decA ((askB x).getD []) = strip x := by
  have e : (askB x).getD [] = le x.id 8 ++ [UInt8.ofNat x.flags.toNat] := by unfold askB; rw [if_pos hf]; rfl
  rw [e]
  have e1 := at8_le x.id [UInt8.ofNat x.flags.toNat] h.1
  have e2 : (le x.id 8 ++ [UInt8.ofNat x.flags.toNat]).getD 8 0 = UInt8.ofNat x.flags.toNat := by
    rw [List.getD, List.getElem?_append_right (by rw [le_len]; omega), le_len]
    rfl
  unfold decA strip
  rw [e1, e2, flag_back _ hf]
theorem decW_le (x : Ac) (h : x.ok) (hf : 0 ≤ x.flags ∧ x.flags ≤ 255) : wholeS (wholeB x).1 = (x, true) := by
  obtain ⟨a, b, c, d⟩ := x
  obtain ⟨h1, _, h3, h4⟩ := h
  have e : (wholeB ⟨a, b, c, d⟩).1 = le a 8 ++ [UInt8.ofNat b.toNat] ++ le c 8 ++ le d 8 := by unfold wholeB; rw [if_pos hf]
  rw [e]
  have e1 : at8 (le a 8 ++ [UInt8.ofNat b.toNat] ++ le c 8 ++ le d 8) 0 = a := by rw [List.append_assoc, List.append_assoc]; exact at8_le a _ h1
  have e2 : (le a 8 ++ [UInt8.ofNat b.toNat] ++ le c 8 ++ le d 8).getD 8 0 = UInt8.ofNat b.toNat := by
    rw [List.append_assoc, List.append_assoc, List.getD, List.getElem?_append_right (by rw [le_len]; omega), le_len]
    rfl
  have e3 : at8 (le a 8 ++ [UInt8.ofNat b.toNat] ++ le c 8 ++ le d 8) 9 = c := by
    rw [List.append_assoc (le a 8 ++ _)]
    exact (at8_drop (le a 8 ++ [UInt8.ofNat b.toNat]) (le c 8 ++ le d 8) 0 9 (by rw [List.length_append, le_len]; rfl)).trans (at8_le c _ h3)
  have e4 : at8 (le a 8 ++ [UInt8.ofNat b.toNat] ++ le c 8 ++ le d 8) 17 = d := by
    refine (at8_drop (le a 8 ++ [UInt8.ofNat b.toNat] ++ le c 8) (le d 8) 0 17 (by rw [List.length_append, List.length_append, le_len, le_len]; rfl)).trans ?_
    have := at8_le d [] h4
    rwa [List.append_nil] at this
  unfold wholeS decW
  rw [if_pos (by rw [List.length_append, List.length_append, List.length_append, le_len, le_len, le_len]; rfl), e1, e2, e3, e4, flag_back _ hf]
end Go.Proofs.Ytbofabmgfkploaa
