/-
  Plain words on events: accounts, transfers and ids as cells and as bytes; lists of them.
-/
import Derived.Test.YtgednnjmcjhfmaaGreatDoorM04
import Derived.Test.YtgednnjmcjhfmaaGreatDoorM05
import Derived.Test.YtgednnjmcjhfmaaGreatDoorM01
namespace Go.Proofs.YtgednnjmcjhfmaaGreatDoor
open Go.RowKit
set_option maxHeartbeats 80000000
structure Ac where
 id : Nat
 flags : Int
 deb : Nat
 cre : Nat
structure Tr where
 a : Nat
 b : Nat
 c : Nat
 d : Nat
def Ac.cells (x : Ac) : List Value := [.int .u64 (x.id : Int), .int .i64 x.flags, .int .u64 (x.deb : Int), .int .u64 (x.cre : Int)]
def Tr.cells (x : Tr) : List Value := [.int .u64 (x.a : Int), .int .u64 (x.b : Int), .int .u64 (x.c : Int), .int .u64 (x.d : Int)]
def Ic (n : Nat) : List Value := [.int .u64 (n : Int)]
def Sc (s : List UInt8) : List Value := [.string ⟨s.toArray⟩]
/-- a list's cells -/
def rows {α : Type} (C : α → List Value) (l : List α) : List Value := (l.map C).flatten
abbrev U64 (n : Nat) : Prop := n < 18446744073709551616
def Ac.ok (x : Ac) : Prop := U64 x.id ∧ (-9223372036854775808 ≤ x.flags ∧ x.flags ≤ 9223372036854775807) ∧ U64 x.deb ∧ U64 x.cre
def Tr.ok (x : Tr) : Prop := U64 x.a ∧ U64 x.b ∧ U64 x.c ∧ U64 x.d
section
variable {α : Type} {C : α → List Value} {n : Nat}
theorem rows_len (h : ∀ x, (C x).length = n) (l : List α) : (rows C l).length = l.length * n := by
 unfold rows
 rw [flat_length n _ (by intro r hr; obtain ⟨x, _, rfl⟩ := List.mem_map.1 hr; exact h x), List.length_map]
theorem rows_get (h : ∀ x, (C x).length = n) (l : List α) (i j : Nat) (hi : i < l.length) (hj : j < n) : (rows C l)[i * n + j]? = (C l[i])[j]? := by
 unfold rows
 rw [flat_get n _ i j (by intro r hr; obtain ⟨x, _, rfl⟩ := List.mem_map.1 hr; exact h x) hj, List.getElem?_map, List.getElem?_eq_getElem hi]
 rfl
theorem rows_one {l : List α} (h : ∀ x, ∀ u ∈ C x, u.oneCell' = true) : ∀ u ∈ rows C l, u.oneCell' = true := by
 intro u hu
 obtain ⟨r, hr, hu⟩ := List.mem_flatten.1 hu
 obtain ⟨x, _, rfl⟩ := List.mem_map.1 hr
 exact h x u hu
theorem rows_app (l m : List α) : rows C (l ++ m) = rows C l ++ rows C m := by simp [rows]
theorem rows_take (h : ∀ x, (C x).length = n) : ∀ (l : List α) (k : Nat), rows C (l.take k) = (rows C l).take (k * n)
 | [], k => by simp [rows]
 | x :: l, 0 => by simp [rows]
 | x :: l, k + 1 => by
  have := rows_take h l k
  simp only [rows, List.take_succ_cons, List.map_cons, List.flatten_cons] at this ⊢
  have e : (k + 1) * n = (C x).length + k * n := by rw [h x, Nat.add_mul]; omega
  rw [this, e, List.take_length_add_append]
end
theorem Ac.len (x : Ac) : x.cells.length = 4 := rfl
theorem Tr.len (x : Tr) : x.cells.length = 4 := rfl
theorem Ic_len (x : Nat) : (Ic x).length = 1 := rfl
theorem Sc_len (x : List UInt8) : (Sc x).length = 1 := rfl
theorem rows_Sc (l : List (List UInt8)) : rows Sc l = l.map fun s => .string ⟨s.toArray⟩ := by
 induction l with
 | nil => rfl
 | cons x r ih => simp only [rows, List.map_cons, List.flatten_cons] at ih ⊢; rw [ih]; rfl
/-! ### as bytes -/
def trB (x : Tr) : Option (List UInt8) := some (le x.a 8 ++ le x.b 8 ++ le x.c 8 ++ le x.d 8)
/-- a list's bytes -/
def putL {α : Type} (f : α → Option (List UInt8)) (l : List α) : List UInt8 × Int :=
 if l.length = 0 ∨ 4 < l.length then ([], 1) else if l.all (fun x => (f x).isSome) then (l.flatMap (fun x => (f x).getD []), 0) else ([], 1)
def wholeB (x : Ac) : List UInt8 × Int := if 0 ≤ x.flags ∧ x.flags ≤ 255 then (le x.id 8 ++ [UInt8.ofNat x.flags.toNat] ++ le x.deb 8 ++ le x.cre 8, 0) else ([], 1)
/-- the number of eight bytes from a place on -/
def at8 (s : List UInt8) (i : Nat) : Nat := leV ((s.drop i).take 8)
def decA (p : List UInt8) : Ac := ⟨at8 p 0, (p.getD 8 0).toNat, 0, 0⟩
def decT (p : List UInt8) : Tr := ⟨at8 p 0, at8 p 8, at8 p 16, at8 p 24⟩
def decI (p : List UInt8) : Nat := at8 p 0
def ac0 : Ac := ⟨0, 0, 0, 0⟩
def tr0 : Tr := ⟨0, 0, 0, 0⟩
/-- the i-th piece of n bytes -/
def piece (n : Nat) (s : List UInt8) (i : Nat) : List UInt8 := (s.drop (i * n)).take n
/-- the list of bytes -/
def takL {α : Type} (n : Nat) (d : List UInt8 → α) (s : List UInt8) : List α × Bool :=
 if s.length % n ≠ 0 ∨ s.length / n < 1 ∨ 4 < s.length / n then ([], false) else ((List.range (s.length / n)).map (fun i => d (piece n s i)), true)
/-- bytes cut up: at most k pieces -/
def pcs (n : Nat) : Nat → List UInt8 → List (List UInt8)
 | 0, _ => []
 | k + 1, s => if s = [] then [] else s.take n :: pcs n k (s.drop n)
/-- what the pieces are -/
def eachT {α : Type} (n : Nat) (d : List UInt8 → α) (P : List (List UInt8)) : List α × Bool :=
 if P.length = 0 ∨ 4 < P.length then ([], false) else if P.all (fun p => p.length = n) then (P.map d, true) else ([], false)
/-- whole pieces -/
theorem pcs_whole (n : Nat) (h : 0 < n) : ∀ (k q : Nat) (s : List UInt8), s.length = q * n → q ≤ k → pcs n k s = (List.range q).map (piece n s)
 | 0, q, s, _, hq => by
  obtain rfl : q = 0 := by omega
  rfl
 | k + 1, 0, s, hs, _ => by
  have : s = [] := List.eq_nil_of_length_eq_zero (by simpa using hs)
  subst this
  simp [pcs]
 | k + 1, q + 1, s, hs, hq => by
  have hne : s ≠ [] := by
   intro e
   subst e
   rw [Nat.add_mul] at hs
   simp at hs
   omega
  have hd : (s.drop n).length = q * n := by rw [List.length_drop, hs, Nat.add_mul]; omega
  rw [pcs, if_neg hne, pcs_whole n h k q (s.drop n) hd (by omega), List.range_succ_eq_map, List.map_cons, List.map_map]
  congr 1
  ·
   simp [piece]
  ·
   apply List.map_congr_left
   intro i _
   simp only [piece, Function.comp, List.drop_drop]
   congr 2
   rw [Nat.succ_mul]
   omega
/-- the pieces are not all whole, or they are too many -/
theorem pcs_broken (n : Nat) (h : 0 < n) : ∀ (k : Nat) (s : List UInt8), s.length % n ≠ 0 → (pcs n k s).length < k → (pcs n k s).all (fun p => p.length = n) = false
 | 0, s, _, hl => by simp at hl
 | k + 1, s, hs, hl => by
  have hne : s ≠ [] := by
   intro e
   subst e
   simp at hs
  rw [pcs, if_neg hne] at hl ⊢
  simp only [List.length_cons] at hl
  rw [List.all_cons]
  by_cases hn : s.length < n
  ·
   have : ¬ (s.take n).length = n := by rw [List.length_take]; omega
   rw [decide_eq_false this, Bool.false_and]
  ·
   have hd : (s.drop n).length % n ≠ 0 := by
    rw [List.length_drop]
    intro e
    apply hs
    rw [← Nat.sub_add_cancel (Nat.le_of_not_lt hn), Nat.add_mod_right]
    exact e
   rw [pcs_broken n h k (s.drop n) hd (by omega), Bool.and_false]
theorem pcs_full (n : Nat) (h : 0 < n) : ∀ (k : Nat) (s : List UInt8), k * n ≤ s.length + (n - 1) → (pcs n k s).length = k
 | 0, s, _ => rfl
 | k + 1, s, hs => by
  rw [Nat.add_mul] at hs
  have hne : s ≠ [] := by
   intro e
   subst e
   simp at hs
   omega
  rw [pcs, if_neg hne, List.length_cons, pcs_full n h k (s.drop n) (by rw [List.length_drop]; omega)]
theorem eachT_pcs {α : Type} (n : Nat) (h : 0 < n) (d : List UInt8 → α) (s : List UInt8) : eachT n d (pcs n 5 s) = takL n d s := by
 unfold takL
 have hdm := Nat.div_add_mod s.length n
 by_cases h1 : s.length % n = 0
 ·
  have hq : s.length = s.length / n * n := by rw [Nat.mul_comm]; omega
  by_cases h2 : s.length / n < 1 ∨ 4 < s.length / n
  ·
   rw [if_pos (.inr h2)]
   unfold eachT
   rcases h2 with h2 | h2
   ·
    have h0 : s.length / n = 0 := Nat.lt_one_iff.1 h2
    have : s = [] := List.eq_nil_of_length_eq_zero (by rw [hq, h0, Nat.zero_mul])
    subst this
    rfl
   ·
    have : (pcs n 5 s).length = 5 := pcs_full n h 5 s (by
     have : 5 * n ≤ s.length / n * n := Nat.mul_le_mul_right _ (by omega)
     omega)
    rw [if_pos (.inr (by omega))]
  ·
   generalize s.length / n = q at *
   rw [if_neg (by omega), pcs_whole n h 5 q s hq (by omega)]
   unfold eachT
   rw [if_neg (by rw [List.length_map, List.length_range]; omega), if_pos, List.map_map]
   ·
    rfl
   ·
    rw [List.all_eq_true]
    intro p hp
    obtain ⟨i, hi, rfl⟩ := List.mem_map.1 hp
    have hi := List.mem_range.1 hi
    have : (i + 1) * n ≤ q * n := Nat.mul_le_mul_right _ hi
    rw [Nat.add_mul] at this
    simp only [piece, List.length_take, List.length_drop, decide_eq_true_eq]
    omega
 ·
  rw [if_pos (.inl h1)]
  unfold eachT
  split
  ·
   rfl
  ·
   rw [if_neg]
   have := pcs_broken n h 5 s h1 (by omega)
   rw [this]
   simp
/-- what was laid is taken -/
theorem takL_flat {α : Type} (n : Nat) (h : 0 < n) (d : List UInt8 → α) (b : α → List UInt8) (l : List α) (hb : ∀ x ∈ l, (b x).length = n) (h1 : 1 ≤ l.length) (h4 : l.length ≤ 4) : takL n d (l.flatMap b) = (l.map fun x => d (b x), true) := by
 have hlen : ∀ m : List α, (∀ x ∈ m, (b x).length = n) → (m.flatMap b).length = m.length * n := by
  intro m
  induction m with
  | nil => intro _; simp
  | cons x r ih =>
   intro hm
   rw [List.flatMap_cons, List.length_append, ih (fun y hy => hm y (by simp [hy])), hm x (by simp), List.length_cons, Nat.add_mul]
   omega
 have hL := hlen l hb
 unfold takL
 rw [hL, Nat.mul_mod_left, Nat.mul_div_cancel _ h, if_neg (by omega)]
 congr 1
 apply List.ext_getElem?
 intro i
 rw [List.getElem?_map, List.getElem?_map]
 by_cases hi : i < l.length
 ·
  rw [List.getElem?_range hi, List.getElem?_eq_getElem hi]
  simp only [Option.map_some]
  congr 2
  have e : l = l.take i ++ l[i] :: l.drop (i + 1) := by rw [← List.drop_eq_getElem_cons hi, List.take_append_drop]
  have ht : ((l.take i).flatMap b).length = i * n := by rw [hlen _ (fun x hx => hb x (List.mem_of_mem_take hx)), List.length_take, Nat.min_eq_left (by omega)]
  unfold piece
  conv => lhs; rw [e]
  rw [List.flatMap_append, List.flatMap_cons, ← ht, List.drop_left, ← hb l[i] (List.getElem_mem hi), List.take_left]
 ·
  rw [List.getElem?_eq_none (by simp; omega), List.getElem?_eq_none (by omega)]
  rfl
/-- at the end of the bytes, of an account, a transfer, an id -/
theorem at8_le (n : Nat) (r : List UInt8) (h : U64 n) : at8 (le n 8 ++ r) 0 = n := by
 unfold at8
 rw [List.drop_zero, List.take_append_of_le_length (by rw [le_len]; omega), List.take_of_length_le (by rw [le_len]; omega)]
 have key : ∀ k m, leV (le m k) = m % 2 ^ (8 * k) := by
  intro k
  induction k with
  | zero => intro m; simp [le, leV, Nat.mod_one]
  | succ k ih =>
   intro m
   rw [le, leV, ih, show 8 * (k + 1) = 8 + 8 * k by omega, Nat.pow_add, Nat.mod_mul]
   simp
 rw [key]
 exact Nat.mod_eq_of_lt (by simpa using h)
theorem at8_drop (p r : List UInt8) (i k : Nat) (h : p.length = k) : at8 (p ++ r) (k + i) = at8 r i := by
 subst h
 unfold at8
 rw [← List.drop_drop, List.drop_left]
theorem decT_le (x : Tr) (h : x.ok) : decT ((trB x).getD []) = x := by
 obtain ⟨a, b, c, d⟩ := x
 obtain ⟨h1, h2, h3, h4⟩ := h
 have e1 : at8 (le a 8 ++ le b 8 ++ le c 8 ++ le d 8) 0 = a := by rw [List.append_assoc, List.append_assoc]; exact at8_le a _ h1
 have e2 : at8 (le a 8 ++ le b 8 ++ le c 8 ++ le d 8) 8 = b := by
  rw [List.append_assoc, List.append_assoc, show (8 : Nat) = 8 + 0 from rfl, at8_drop (le a (8 + 0)) _ 0 (8 + 0) (le_len _ _)]
  exact at8_le b _ h2
 have e3 : at8 (le a 8 ++ le b 8 ++ le c 8 ++ le d 8) 16 = c := by
  rw [List.append_assoc (le a 8 ++ le b 8)]
  exact (at8_drop (le a 8 ++ le b 8) (le c 8 ++ le d 8) 0 16 (by rw [List.length_append, le_len, le_len])).trans (at8_le c _ h3)
 have e4 : at8 (le a 8 ++ le b 8 ++ le c 8 ++ le d 8) 24 = d := by
  refine (at8_drop (le a 8 ++ le b 8 ++ le c 8) (le d 8) 0 24 (by rw [List.length_append, List.length_append, le_len, le_len, le_len])).trans ?_
  have := at8_le d [] h4
  rwa [List.append_nil] at this
 show Tr.mk (at8 (le a 8 ++ le b 8 ++ le c 8 ++ le d 8) 0) (at8 (le a 8 ++ le b 8 ++ le c 8 ++ le d 8) 8) (at8 (le a 8 ++ le b 8 ++ le c 8 ++ le d 8) 16) (at8 (le a 8 ++ le b 8 ++ le c 8 ++ le d 8) 24) = _
 rw [e1, e2, e3, e4]
end Go.Proofs.YtgednnjmcjhfmaaGreatDoor
namespace Go.Proofs.YtgednnjmcjhfmaaGreatDoor
open Go.RowKit
set_option maxRecDepth 10000
set_option maxHeartbeats 80000000
/-- a text -/
def SE (w : World) (r : List UInt8) (e : Ending) (w' : World) : Prop := e = .returned (.string ⟨r.toArray⟩) ∧ Below w.heap.size w w'
/-- a value, and what was there is as it was -/
def VE (w : World) (v : Value) (e : Ending) (w' : World) : Prop := e = .returned v ∧ Below w.heap.size w w'
theorem cat_mk (a b : List UInt8) : (⟨a.toArray⟩ : ByteArray) ++ ⟨b.toArray⟩ = ⟨(a ++ b).toArray⟩ := by
 apply ByteArray.ext
 simp
theorem own_base {w : World} {B B' e size n : Nat} {v : Value} {xs : List Value} (h : w.ownsRow B e size v n xs) (hB : B' ≤ B) : w.ownsRow B' e size v n xs := by
 obtain ⟨h1, h2⟩ := h
 refine ⟨h1, ?_⟩
 rcases h2 with h2 | ⟨g, cap, cur, e1, a, b⟩
 ·
  exact .inl h2
 ·
  exact .inr ⟨g, cap, cur, e1, by omega, b⟩
theorem own_below {w w' : World} {B e size n : Nat} {v : Value} {xs : List Value} (h : w.ownsRow B e size v n xs) (hb : Below w.heap.size w w') : w'.ownsRow B e size v n xs := by
 obtain ⟨h1, h2⟩ := h
 refine ⟨h1, ?_⟩
 rcases h2 with h2 | ⟨g, cap, cur, e1, a, b, c⟩
 ·
  exact .inl h2
 ·
  exact .inr ⟨g, cap, cur, e1, a, (hb.block g (Array.getElem?_eq_some_iff.1 b).1).trans b, c⟩
theorem BE.len {w w' : World} {r : List UInt8} {e : Ending} {n : Nat} {x : Int} (h : BE w (r, x) e w') (hn : r.length = n) :
  ∃ A c, e = .returned (.tuple #[.slice A n c, .int .i64 x]) ∧ w'.ownsRow w.heap.size 5 1 (.slice A n c) n (bvs r) ∧ Below w.heap.size w w' := by
 subst hn
 exact h
theorem alloc2_new (w : World) (o1 o2 : Obj) : ((w.alloc o1).alloc o2).heap[w.heap.size + 1]? = some o2 := by
 have := heap_alloc_new (w.alloc o1) o2
 simpa using this
section
variable {w w' w'' : World} {r : Option Nat}
theorem gtrans (h : w.grownBy w' r) (h' : w'.grownBy w'' r) : w.grownBy w'' r :=
 ⟨h'.os.trans h.os, h'.tape.trans h.tape, h'.output.trans h.output, Nat.le_trans h.size h'.size, fun k hk hr => (h'.block k (Nat.lt_of_lt_of_le hk h.size) hr).trans (h.block k hk hr)⟩
theorem gbelow {B : Nat} (h : Below B w w') (hB : w.heap.size ≤ B) (r : Option Nat) : w.grownBy w' r := ⟨h.os, h.tape, h.output, h.size, fun k hk _ => h.block k (by omega)⟩
theorem gset (w : World) (g i : Nat) (u : Value) : w.grownBy (w.setCell ⟨g, i, none⟩ u) (some g) :=
 ⟨rfl, rfl, rfl, by simp, fun k _ hr => heap_setCell_other w ⟨g, i, none⟩ k u (by intro e; exact hr (by rw [e]))⟩
end

/-- the numbers' bytes -/
def leAll (l : List Nat) : List UInt8 := l.flatMap (fun n => le n 8)
theorem leAll_len (l : List Nat) : (leAll l).length = 8 * l.length := by
 unfold leAll
 induction l with
 | nil => rfl
 | cons a r ih => rw [List.flatMap_cons, List.length_append, ih, le_len, List.length_cons]; omega
theorem leAll_take (l : List Nat) (k : Nat) (h : k < l.length) : leAll (l.take (k + 1)) = leAll (l.take k) ++ le l[k] 8 := by
 unfold leAll
 rw [List.take_succ_eq_append_getElem h, List.flatMap_append, List.flatMap_cons, List.flatMap_nil, List.append_nil]
/-- Put of eight bytes -/
theorem put_eight (A : Option Addr) (bs : List UInt8) (m c n B : Nat) (W : World) (hr : Rd W B A (bvs bs)) (hm : m = bs.length) (hn : U64 n) (hB : B ≤ W.heap.size) (hl : m ≤ 140737488351232) :
  Calls Tryz.prog 69 #[.slice A m c, .int .u64 (n : Int), .int .i64 8] W
  fun e w' => ∃ A c, e = .returned (.tuple #[.slice A (m + 8) c, .int .i64 0]) ∧ w'.ownsRow W.heap.size 5 1 (.slice A (m + 8) c) (m + 8) (bvs (bs ++ le n 8)) ∧ Below W.heap.size W w' := by
 subst hm
 have h := put_any A bs bs.length c n B 8 W hr rfl hB hl
 have e : putS bs n 8 = (bs ++ le n 8, 0) := by
  unfold putS
  rw [if_pos ⟨by omega, by omega, Nat.div_eq_of_lt (by simpa using hn)⟩]
  rfl
 rw [e] at h
 exact h.mono fun e w' hh => BE.len hh (by simp [le_len])
theorem rput_eight (W : World) (n B : Nat) (A : Option Addr) (c : Nat) (hn : U64 n) (hr : Rd W B A []) (hB : B ≤ W.heap.size) :
  Calls Tryz.prog 75 #[.slice A 0 c, .int .u64 (n : Int), .int .i64 8] W
  fun e w' => ∃ A c, e = .returned (.tuple #[.slice A 8 c, .int .i64 0]) ∧ Rd w' w'.heap.size A (bvs (le n 8)) ∧ Below W.heap.size W w' := by
 have h := rput_any A [] 0 c n B 8 W hr rfl hB (by omega) (hid hn)
 have e : putS [] n 8 = (le n 8, 0) := by
  unfold putS
  rw [if_pos ⟨by omega, by omega, Nat.div_eq_of_lt (by simpa using hn)⟩]
  rfl
 rw [e] at h
 refine h.mono fun e w' hh => ?_
 obtain ⟨A', c', e1, ho, hb⟩ := BE.len hh (le_len _ _)
 obtain ⟨A2, c2, e2, _, _, hrd⟩ := own_shape ho
 cases e2
 exact ⟨A', c', e1, hrd, hb⟩
theorem lay_nums (A : Option Addr) (l : List Nat) (n c B : Nat) (w : World) (hr : Rd w B A (rows Ic l)) (hn : n = l.length) (h0 : 0 < n) (hl : n ≤ 4) (hnc : n ≤ c) (h64 : ∀ x ∈ l, U64 x) (hB : B ≤ w.heap.size) :
  Calls Tryz.prog 140 #[.slice A n c] w (SE w (leAll l)) := by
 have hcl := rows_len (C := Ic) Ic_len l
 obtain ⟨g, o, rfl, hg, hcell⟩ := hr (by intro e; rw [e] at hcl; simp at hcl; omega)
 have hget : ∀ W : World, Below w.heap.size w W → ∀ k (hk : k < l.length), W.cell? ⟨g, o + k, none⟩ = some (.int .u64 (l[k] : Int)) := fun W hW k hk => by
  rw [hW.cell (p := ⟨g, o + k, none⟩) (by show g < _; omega)]
  exact hcell k _ (by
   have := rows_get (C := Ic) Ic_len l k 0 hk (by omega)
   simpa [Ic] using this)
 have HGET := hid hget
 have HN := hid hn
 have H64 := hid (fun k (hk : k < l.length) => h64 l[k] (List.getElem_mem hk))
 clear hget hcell hr hn h64 hcl
 go_enter Tryz.func140, Tryz.ntmps140
 go_wp2_with fail
 go_loopw [3, 8] (fun b i wr => ∃ k : Nat, k ≤ n ∧ i = .int .i64 k ∧ (∃ A c, b = .slice A (8 * k) c ∧ wr.ownsRow w.heap.size 5 1 (.slice A (8 * k) c) (8 * k) (bvs (leAll (l.take k)))) ∧ Below w.heap.size w wr) (fun _ i _ => n - (intOf i).toNat)
 case atStart => exact ⟨0, by omega, rfl, ⟨none, 0, rfl, World.ownsRow_nil _ _ _ _⟩, Below.refl _ _⟩
 case round =>
  obtain ⟨k, hk, rfl, ⟨A, c1, rfl, hown⟩, hbe⟩ := hrel
  have HBe := hid hbe
  have hsz := hbe.size
  obtain ⟨A', c', hv, -, -, hrd⟩ := own_shape hown
  cases hv
  by_cases hlt : k < n
  ·
   have hkl : k < l.length := by rw [← HN.out]; exact hlt
   have hc := HGET.out wr hbe k hkl
   have HT := hid (leAll_take l k hkl)
   have hlen : 8 * k = (leAll (l.take k)).length := by rw [leAll_len, List.length_take, Nat.min_eq_left (by omega)]
   have HP := hid (put_eight A (leAll (l.take k)) (8 * k) c1 l[k] wr.heap.size wr hrd hlen (H64.out k hkl) (Nat.le_refl _) (by omega))
   rw [← HT.out] at HP
   generalize l[k] = x at hc HP
   clear hown hbe hrd hlen HT
   go_wp2_with (go_at_call 69; refine HP.out.mono ?_; rintro e w2 ⟨A2, c2, rfl, hown2, hb2⟩)
   exact ⟨⟨k + 1, by omega, by go_num, ⟨A2, c2, rfl, own_base hown2 hsz⟩, HBe.out.trans (hb2.mono hsz)⟩, by simp [intOf]; omega⟩
  ·
   obtain rfl : k = n := by omega
   have HT : Hid (l.take k = l) := hid (List.take_of_length_le (by rw [HN.out]; exact Nat.le_refl _))
   rw [HT.out] at hrd
   have HL : Hid (8 * k = (leAll l).length) := hid (by rw [leAll_len, ← HN.out])
   clear hown
   go_wp2_with (with_reducible refine wpl_str rfl _ 85 9 rfl 5 Tryz.underlying85 Tryz.underlying5 Tryz.underlying9 A (8 * k) c1 rfl wr.heap.size (leAll l) ?_ (hid hrd) (hid HL.out))
   go_ret
   exact ⟨rfl, HBe.out⟩
theorem eight_any (n : Nat) (w : World) (hn : U64 n) : Calls Tryz.prog 45 #[.int .u64 (n : Int)] w (SE w (le n 8)) := by
 have HP := hid (fun W A c B (h1 : Rd W B A []) h2 => rput_eight W n B A c hn h1 h2)
 have HL := hid (le_len 8 n)
 go_enter Tryz.func45, Tryz.ntmps45
 go_wp2_with (first
  | (go_at_call 75; refine (HP.out _ _ _ 0 Rd.nil (Nat.zero_le _)).mono ?_; rintro e w1 ⟨A, c, rfl, hrd, hb⟩)
  | (with_reducible refine wpl_str rfl _ 85 9 rfl 5 Tryz.underlying85 Tryz.underlying5 Tryz.underlying9 A 8 c rfl w1.heap.size (le n 8) ?_ (hid hrd) (hid HL.out.symm)))
 go_ret
 exact ⟨rfl, ((Below.refl _ _).alloc (Nat.le_refl _) _).trans (hb.mono (by simp))⟩
theorem takeS_eight (bs : List UInt8) (i : Nat) (h : i + 8 ≤ bs.length) : takeS bs i 8 = (at8 bs i, 0) := by
 unfold takeS
 rw [if_neg (by omega), if_neg (by omega)]
 rfl
theorem at_any (s : ByteArray) (i : Nat) (w : World) (h : i + 8 ≤ s.size) (hs : s.size ≤ 140737488355328) :
  Calls Tryz.prog 135 #[.string s, .int .i64 (i : Int)] w (VE w (.int .u64 (at8 (sb s) i : Int))) := by
 have HP := hid (fun W A c B (hr : Rd W B A (bvs (sb s))) => by
  have := rtake_any A (sb s) s.size c B i 8 W hr (sb_len s).symm hs
  rw [takeS_eight (sb s) i (by rw [sb_len]; exact h)] at this
  exact this)
 generalize at8 (sb s) i = x at HP
 go_enter Tryz.func135, Tryz.ntmps135
 go_wp2_with (first
  | (with_reducible refine wpl_bytes rfl _ _ _ rfl 5 Tryz.underlying9 Tryz.underlying85 Tryz.underlying5 s rfl ?_; intro g c k0 w1 HG HC HR HB)
  | (go_at_call 154; refine (HP.out w1 _ c (g + 1) (by
    have := (HR.rd (B := g + 1) (by omega)).take (bvs (sb s)).length
    rwa [List.take_left] at this)).mono ?_; rintro e w2 ⟨rfl, hb2⟩))
 go_ret
 exact ⟨rfl, HB.trans (hb2.mono HB.size)⟩
theorem many_any (n : Int) (w : World) : Calls Tryz.prog 114 #[.int .i64 n] w fun e w' => e = .returned (.bool (decide (1 ≤ n ∧ n ≤ 4))) ∧ w = w' := by
 by_cases h1 : 1 ≤ n
 ·
  by_cases h2 : n ≤ 4
  ·
   have e : decide (1 ≤ n ∧ n ≤ 4) = true := decide_eq_true ⟨h1, h2⟩
   rw [e]
   have H := hid e
   clear e
   go_enter Tryz.func114, Tryz.ntmps114
   go_wp2_with fail
   go_ret
   exact ⟨by simp, rfl⟩
  ·
   have e : decide (1 ≤ n ∧ n ≤ 4) = false := decide_eq_false (by omega)
   rw [e]
   clear e
   go_enter Tryz.func114, Tryz.ntmps114
   go_wp2_with fail
   go_ret
   exact ⟨by simp, rfl⟩
 ·
  have e : decide (1 ≤ n ∧ n ≤ 4) = false := decide_eq_false (by omega)
  rw [e]
  have h3 : decide (1 ≤ n) = false := decide_eq_false h1
  clear e
  go_enter Tryz.func114, Tryz.ntmps114
  go_wp2_with fail
  go_ret
  exact ⟨by simp, rfl⟩
/-- a text and a yes or no -/
def SB (w : World) (r : List UInt8 × Bool) (e : Ending) (w' : World) : Prop := e = .returned (.tuple #[.string ⟨r.1.toArray⟩, .bool r.2]) ∧ Below w.heap.size w w'
theorem flags_yes (n : Nat) (w : World) (h2 : (n : Int) ≤ 255) : Calls Tryz.prog 113 #[.int .i64 (n : Int)] w (SB w ([UInt8.ofNat n], true)) := by
 have h1 : decide ((n : Int) < 0) = false := by simp
 have hr : Rd (w.alloc (.cells #[.int .u8 (n : Int)] 5)) (w.heap.size + 1) (some ⟨w.heap.size, 0, none⟩) (bvs [UInt8.ofNat n]) := by
  have e : bvs [UInt8.ofNat n] = [.int .u8 (n : Int)] := by simp [bvs, bv_ofNat]; omega
  rw [e]
  exact Row.rd (Row.new w 5 #[.int .u8 (n : Int)]) (by omega)
 have HR := hid hr
 clear hr
 go_enter Tryz.func113, Tryz.ntmps113
 go_wp2_with (with_reducible refine wpl_str rfl _ 85 9 rfl 5 Tryz.underlying85 Tryz.underlying5 Tryz.underlying9 _ 1 1 rfl (w.heap.size + 1) [UInt8.ofNat n] ?_ (hid HR.out) (hid rfl))
 go_ret2
 exact ⟨rfl, (Below.refl _ _).alloc (Nat.le_refl _) _⟩
theorem flags_low (n : Int) (w : World) (h : n < 0) : Calls Tryz.prog 113 #[.int .i64 n] w (SB w ([], false)) := by
 go_enter Tryz.func113, Tryz.ntmps113
 go_wp2_with fail
 go_ret2
 exact ⟨rfl, Below.refl _ _⟩
theorem flags_high (n : Int) (w : World) (h : 255 < n) : Calls Tryz.prog 113 #[.int .i64 n] w (SB w ([], false)) := by
 have h1 : decide (n < 0) = false := decide_eq_false (by omega)
 go_enter Tryz.func113, Tryz.ntmps113
 go_wp2_with fail
 go_ret2
 exact ⟨rfl, Below.refl _ _⟩
def flagS (n : Int) : List UInt8 × Bool := if 0 ≤ n ∧ n ≤ 255 then ([UInt8.ofNat n.toNat], true) else ([], false)
theorem flags_any (n : Int) (w : World) : Calls Tryz.prog 113 #[.int .i64 n] w (SB w (flagS n)) := by
 unfold flagS
 by_cases h : 0 ≤ n ∧ n ≤ 255
 ·
  rw [if_pos h]
  obtain ⟨m, rfl⟩ := Int.eq_ofNat_of_zero_le h.1
  exact flags_yes m w h.2
 ·
  rw [if_neg h]
  by_cases h1 : n < 0
  ·
   exact flags_low n w h1
  ·
   exact flags_high n w (by omega)
/-! ### take -/
theorem take_eight (A : Option Addr) (bs : List UInt8) (l c i B : Nat) (W : World) (hr : Rd W B A (bvs bs)) (hl : l = bs.length) (h : i + 8 ≤ l) (hc : l ≤ c) (hB : B ≤ W.heap.size) (hbig : l ≤ 140737488355328) :
  Calls Tryz.prog 145 #[.slice A l c, .int .i64 (i : Int), .int .i64 8] W fun e w' => e = .returned (.tuple #[.int .u64 (at8 bs i : Int), .int .i64 0]) ∧ Below W.heap.size W w' := by
 have := take_any A bs l c B i 8 W hr hl hbig hc hB
 rw [takeS_eight bs i (by omega)] at this
 exact this
/-- the cells behind k numbers are taken -/
def took (cs : List Value) (s : List UInt8) (os : List Nat) : Nat → List Value
 | 0 => cs
 | k + 1 => (took cs s os k).set (os.getD k 0) (.int .u64 (at8 s (8 * k) : Int))
theorem took_len (cs : List Value) (s : List UInt8) (os : List Nat) : ∀ k, (took cs s os k).length = cs.length
 | 0 => rfl
 | k + 1 => by rw [took, List.length_set, took_len cs s os k]
def ptrs (g : Nat) (os : List Nat) : List Value := os.map fun o => .pointer (some ⟨g, o, none⟩)
theorem take_no (s : ByteArray) (P : Option Addr) (n c : Nat) (w : World) (hn : n ≤ 4) (h : ((s.size : Int) != (8 * n : Nat)) = true) :
  Calls Tryz.prog 126 #[.string s, .slice P n c] w fun e w' => e = .returned (.bool false) ∧ w = w' := by
 have hw : wrap64 (8 * (n : Int)) = ((8 * n : Nat) : Int) := by rw [IntWalk.wrap64_in _ ⟨by omega, by omega⟩]; omega
 go_enter Tryz.func126, Tryz.ntmps126
 go_wp2_with fail
 go_ret
 exact ⟨rfl, rfl⟩
theorem take_yes (s : ByteArray) (g gp op n c B : Nat) (T : TypeId) (cs : List Value) (os : List Nat) (w : World) (hn : n ≤ 4) (h0 : 0 < n) (hos : os.length = n) (hs : s.size = 8 * n)
    (hrow : Row w g T cs) (hp : Rd w B (some ⟨gp, op, none⟩) (ptrs g os)) (hne : gp ≠ g) (hc : n ≤ c) (hcs : ∀ o ∈ os, o < cs.length) :
    Calls Tryz.prog 126 #[.string s, .slice (some ⟨gp, op, none⟩) n c] w fun e w' => e = .returned (.bool true) ∧ Row w' g T (took cs (sb s) os n) ∧ w.grownBy w' (some g) := by
  have hg := hrow.lt
  have hw : wrap64 (8 * (n : Int)) = ((8 * n : Nat) : Int) := by rw [IntWalk.wrap64_in _ ⟨by omega, by omega⟩]; omega
  have heq : ((s.size : Int) != (8 * n : Nat)) = false := by rw [hs]; simp
  have hget : ∀ W : World, w.grownBy W (some g) → ∀ k (hk : k < os.length), W.cell? ⟨gp, op + k, none⟩ = some (.pointer (some ⟨g, os[k], none⟩)) := fun W hW k hk => by
    obtain ⟨g', o', e, _, hcell⟩ := hp (by intro e; have : (ptrs g os).length = 0 := by rw [e]; rfl
                                           simp [ptrs] at this; rw [this] at hos; simp at hos; omega)
    cases e
    have h1 := hcell k (.pointer (some ⟨g, os[k], none⟩)) (by simp [ptrs, hk])
    exact hW.cell h1 (by intro e; exact hne (by simpa using e))
  have HGET := hid hget
  have HOS := hid hos
  have HROW := hid hrow
  have HCS := hid hcs
  have HS := hid hs
  have HSB := hid (sb_len s)
  clear hget hos hrow hcs hp hs
  go_enter Tryz.func126, Tryz.ntmps126
  go_wp2_with (with_reducible refine wpl_bytes rfl _ _ _ rfl 5 Tryz.underlying9 Tryz.underlying85 Tryz.underlying5 s rfl ?_; intro gb c1 k0 w1 HG HC HR HB)
  have hg1 : w.grownBy w1 (some g) := gbelow HB (Nat.le_refl _) _
  have hr1 := HROW.out.below HB hg
  have hgb : g < gb := by have := HG.out; omega
  have HG1 := hid hg1
  have HR1 := hid hr1
  have HRB := hid HR
  have HGB := hid HR.lt
  clear HB HR hr1 hg1
  go_loopw [18] (fun i wr => ∃ k : Nat, k ≤ n ∧ i = .int .i64 k ∧ Row wr g T (took cs (sb s) os k) ∧ w1.grownBy wr (some g)) (fun i _ => n - (intOf i).toNat)
  case atStart => exact ⟨0, by omega, rfl, HR1.out, World.grownBy.refl _ _⟩
  case round =>
    obtain ⟨k, hk, rfl, hrow, hgr⟩ := hrel
    have HGR := hid hgr
    have hsz := hgr.size
    have hfr : FRow wr gb 5 (bvs (sb s) ++ List.replicate k0 (.int .u8 0)) := (hgr.block gb HGB.out (by intro e; simp at e; omega)).trans HRB.out
    by_cases hlt : k < n
    · have hko : k < os.length := by rw [HOS.out]; exact hlt
      have hc := HGET.out wr (gtrans HG1.out hgr) k hko
      have hol : os[k] < cs.length := HCS.out _ (List.getElem_mem hko)
      have hrd : Rd wr (gb + 1) (some ⟨gb, 0, none⟩) (bvs (sb s)) := by
        have := (hfr.rd (B := gb + 1) (by omega)).take (bvs (sb s)).length
        rwa [List.take_left] at this
      have HP := hid (take_eight _ (sb s) s.size c1 (8 * k) (gb + 1) wr hrd HSB.out.symm (by rw [HS.out]; omega) HC.out (by have := HGB.out; omega) (by rw [HS.out]; omega))
      have HK : Hid (∀ W : World, Below wr.heap.size wr W → (∃ u, W.cell? ⟨g, os[k], none⟩ = some u) ∧ W.frozen? ⟨g, os[k], none⟩ = false ∧
          Row (W.setCell ⟨g, os[k], none⟩ (.int .u64 (at8 (sb s) (8 * k) : Int))) g T (took cs (sb s) os (k + 1)) ∧ wr.grownBy (W.setCell ⟨g, os[k], none⟩ (.int .u64 (at8 (sb s) (8 * k) : Int))) (some g)) := hid fun W hb => by
        have h1 := hrow.below hb (by have := HGB.out; omega)
        refine ⟨⟨(took cs (sb s) os k)[os[k]]'(by rw [took_len]; exact hol), by rw [h1.cell]; exact List.getElem?_eq_getElem _⟩, h1.frozen _, ?_, gtrans (gbelow hb (Nat.le_refl _) _) (gset _ _ _ _)⟩
        have := h1.set_ os[k] (.int .u64 (at8 (sb s) (8 * k) : Int))
        have e : os[k] = os.getD k 0 := by simp [hko]
        rw [took, ← e]
        exact this
      have hw8 : wrap64 (8 * (k : Int)) = 8 * (k : Int) := IntWalk.wrap64_in _ ⟨by omega, by omega⟩
      rw [show ((8 * k : Nat) : Int) = 8 * (k : Int) by omega] at HP
      generalize os[k] = o at hc HK
      generalize at8 (sb s) (8 * k) = x at HP HK
      clear hrow hgr hfr hol hrd
      go_wp2_with (go_at_call 145; refine HP.out.mono ?_; rintro e w2 ⟨rfl, hb2⟩; obtain ⟨⟨u, q1⟩, q2, q3, q4⟩ := HK.out w2 hb2; have Q3 := hid q3; have Q4 := hid q4; clear q3 q4)
      exact ⟨⟨k + 1, by omega, by go_num, Q3.out, gtrans HGR.out Q4.out⟩, by simp [intOf]; omega⟩
    · obtain rfl : k = n := by omega
      have HROW2 := hid hrow
      clear hrow hgr hfr
      go_wp2_with fail
      go_ret
      exact ⟨rfl, HROW2.out, gtrans HG1.out HGR.out⟩
theorem Row.arr {w : World} {g : Nat} {e : TypeId} {cs : Array Value} (h : Row w g e cs.toList) : w.heap[g]? = some (.cells cs e (0, 0)) := by simpa [Row] using h
theorem Row.arr' {w : World} {g : Nat} {e : TypeId} {cs : List Value} (h : Row w g e cs) : w.heap[g]? = some (.cells cs.toArray e (0, 0)) := h
/-- a store of a struct -/
theorem wpl_store_st {P : Program} {ops : Array Oper} {rest : List Oper} {o : Oper} {a : Act} {w : World} {Q : Exit → Act → World → Prop} (hgd : o.guard = none) {T : TypeId} (x y : Operand) (ho : o.op = .store T x y) {n : Nat} (hn : (P.info? T).map (·.size) = some n)
  (g : Nat) (cs0 cs : List Value) (hx : a.eval x = .pointer (some ⟨g, 0, none⟩)) (hy : a.eval y = .agg cs.toArray) (hrow : Row w g T cs0)
  (hK : ∀ w', Row w' g T cs → w.grownBy w' (some g) → wpList P ops Q rest (a.put o.dst undef) w')
  (h0 : Hid (cs0.length = n)) (h1 : Hid (cs.length = n)) (hone : Hid (cs.all (·.oneCell') = true)) : wpList P ops Q (o :: rest) a w :=
 wpList_plain hgd fun _ hK' => wp_store_row T x y ho g cs.toArray hx hy T cs0.toArray hrow (by rw [hn, List.size_toArray, h1.out]) (by simp [h0.out, h1.out]) (by simpa using hone.out)
  (hK' _ _ (hK _ (by
   have := setRow_heap w g cs0.toArray cs.toArray T (0, 0) hrow
   exact this) (grownBy_setRow w g _)))
theorem results_cell1 {P : Program} {fn : Func} {p u : Tmp} {ty : TypeId} (h : fn.results = #[.cell p ty, .tmp u]) (tmps : Array Value) (w : World) (g : Nat) (e : TypeId) (cs : Array Value) (fr : Nat × Nat) (d : TypeDesc) (y : Value)
  (hy : tmps.getD u undef = y) (hp : tmps.getD p undef = .pointer (some ⟨g, 0, none⟩)) (hg : w.heap[g]? = some (.cells cs e fr))
  (hu : P.underlying ty = some d) (hd : (match d with | .struct _ | .array _ _ => true | _ => false) = true) (hi : (P.info? ty).map (·.size) = some cs.size) :
  (results fn tmps).run P w = .ok (.tuple #[.agg cs, y]) w := by
 subst hy
 have hp' : tmps[p]?.getD undef = .pointer (some ⟨g, 0, none⟩) := by simpa using hp
 simp [results, h, hp', asAddr, run_loadVar_row w g e ty cs fr d hg hu hd hi]
/-- a struct and a yes or no -/
def AB (w : World) (r : List Value × Bool) (e : Ending) (w' : World) : Prop := e = .returned (.tuple #[.agg r.1.toArray, .bool r.2]) ∧ Below w.heap.size w w'
theorem acSize : (Tryz.prog.info? 80).map (·.size) = some 4 := by kernel_rfl
theorem trSize : (Tryz.prog.info? 82).map (·.size) = some 4 := by kernel_rfl
theorem sb_extract (s : ByteArray) (a b : Nat) : sb (s.extract a b) = ((sb s).drop a).take (b - a) := by simp [sb]
theorem at8_extract (s : ByteArray) (a b i : Nat) (h : i + 8 ≤ b - a) : at8 (sb (s.extract a b)) i = at8 (sb s) (a + i) := by
 rw [sb_extract]
 unfold at8
 rw [List.drop_take, List.take_take, List.drop_drop, Nat.min_eq_left (by omega)]
theorem taka_no (s : ByteArray) (w : World) (h : ((s.size : Int) != 9) = true) : Calls Tryz.prog 122 #[.string s] w (AB w (ac0.cells, false)) := by
 have HZ := hid acSize
 go_enter Tryz.func122, Tryz.ntmps122
 go_wp2_with (refine wpl_store_st rfl (.tmp 2) (.tmp 8) rfl HZ.out w.heap.size ac0.cells ac0.cells rfl rfl (Row.new w _ _) ?_ (hid rfl) (hid rfl) (hid rfl); intro w3 hr3 hg3)
 refine bodyPost_ret (results_cell1 rfl _ _ w.heap.size 80 ac0.cells.toArray (0, 0) _ (.bool false) rfl rfl hr3.arr' Tryz.underlying80 rfl HZ.out) rfl ⟨rfl, ?_⟩
 exact ((Below.refl _ _).alloc (Nat.le_refl _) _).trans (below_grown hg3 (Nat.le_refl _) (by simp))
theorem taka_yes (s : ByteArray) (w : World) (h : s.size = 9) : Calls Tryz.prog 122 #[.string s] w (AB w ((decA (sb s)).cells, true)) := by
 have HZ := hid acSize
 have hI : ((s.size : Int) != 9) = false := by rw [h]; rfl
 have h8 : 8 < s.size := by omega
 have hE : (decA (sb s)).cells = [.int .u64 (at8 (sb (s.extract 0 8)) 0 : Int), .int .i64 (s[8].toNat : Int), .int .u64 0, .int .u64 0] := by
  rw [at8_extract s 0 8 0 (by omega)]
  show [Value.int .u64 (at8 (sb s) 0 : Int), .int .i64 (((sb s).getD 8 0).toNat : Int), .int .u64 0, .int .u64 0] = _
  have : (sb s).getD 8 0 = s[8] := by
   rw [List.getD, List.getElem?_eq_getElem (by rw [sb_len]; exact h8)]
   rfl
  rw [this]
 have hz8 : (s.extract 0 8).size = 8 * 1 := by simp; omega
 have hb8 := UInt8.toNat_lt s[8]
 have hw8 : wrap64 (s[8].toNat : Int) = (s[8].toNat : Int) := IntWalk.wrap64_in _ ⟨by omega, by omega⟩
 rw [hE]
 have H8 := hid hz8
 have HE : Hid (∀ b : Int, took [.int .u64 0, .int .i64 b, .int .u64 0, .int .u64 0] (sb (s.extract 0 8)) [0] 1 = [.int .u64 (at8 (sb (s.extract 0 8)) 0 : Int), .int .i64 b, .int .u64 0, .int .u64 0]) := hid fun b => rfl
 generalize at8 (sb (s.extract 0 8)) 0 = x at *
 have HW := hid (show ∀ b : Int, Row (((w.alloc (.cells #[.int .u64 0, .int .i64 0, .int .u64 0, .int .u64 0] 80)).alloc (.cells #[.int .u64 0, .int .i64 b, .int .u64 0, .int .u64 0] 80)).alloc (.cells #[.pointer (some ⟨w.heap.size + 1, 0, none⟩)] 162)) (w.heap.size + 1) 80 [.int .u64 0, .int .i64 b, .int .u64 0, .int .u64 0] from
  fun b => Row.alloc (alloc2_new _ _ _) _)
 have HZR := hid (show ∀ b : Int, Row (((w.alloc (.cells #[.int .u64 0, .int .i64 0, .int .u64 0, .int .u64 0] 80)).alloc (.cells #[.int .u64 0, .int .i64 b, .int .u64 0, .int .u64 0] 80)).alloc (.cells #[.pointer (some ⟨w.heap.size + 1, 0, none⟩)] 162)) w.heap.size 80 ac0.cells from
  fun b => Row.alloc (Row.alloc (Row.new _ _ _) _) _)
 have HPT := hid (show ∀ b : Int, Rd (((w.alloc (.cells #[.int .u64 0, .int .i64 0, .int .u64 0, .int .u64 0] 80)).alloc (.cells #[.int .u64 0, .int .i64 b, .int .u64 0, .int .u64 0] 80)).alloc (.cells #[.pointer (some ⟨w.heap.size + 1, 0, none⟩)] 162)) (w.heap.size + 3) (some ⟨w.heap.size + 1 + 1, 0, none⟩) (ptrs (w.heap.size + 1) [0]) from
  fun b => Row.rd (e := 162) (by
   have := Row.new ((w.alloc (.cells #[.int .u64 0, .int .i64 0, .int .u64 0, .int .u64 0] 80)).alloc (.cells #[.int .u64 0, .int .i64 b, .int .u64 0, .int .u64 0] 80)) 162 #[.pointer (some ⟨w.heap.size + 1, 0, none⟩)]
   simp only [World.size_alloc] at this
   exact this) (by omega))
 clear hE hz8
 go_enter Tryz.func122, Tryz.ntmps122
 go_wp2_with (first
  | (go_at_call 126; refine (take_yes (s.extract 0 8) (w.heap.size + 1) (w.heap.size + 1 + 1) 0 1 1 (w.heap.size + 3) 80 _ [0] _ (by omega) (by omega) rfl H8.out (HW.out _) (HPT.out _) (by omega) (by omega) (by intro o ho; simp at ho; subst ho; simp)).mono ?_; rintro e w2 ⟨rfl, hr2, hg2⟩; rw [HE.out] at hr2; have hz2 := (HZR.out _).grown hg2 (by simp))
  | (refine wpList_load_row rfl 80 (.tmp 4) rfl (w.heap.size + 1) rfl 80 _ (0, 0) _ hr2.arr' Tryz.underlying80 rfl HZ.out ?_)
  | (refine wpl_store_st rfl (.tmp 2) (.tmp 18) rfl HZ.out w.heap.size ac0.cells _ rfl rfl hz2 ?_ (hid rfl) (hid rfl) (hid rfl); intro w3 hr3 hg3))
 refine bodyPost_ret (results_cell1 rfl _ _ w.heap.size 80 _ (0, 0) _ (.bool true) rfl rfl hr3.arr' Tryz.underlying80 rfl HZ.out) rfl ⟨rfl, ?_⟩
 exact ((((Below.refl _ _).alloc (Nat.le_refl _) _).alloc (by simp) _).alloc (by simp; omega) _).trans ((below_grown hg2 (by omega) (by simp; omega)).trans (below_grown hg3 (Nat.le_refl _) (by have := hg2.size; simp at this; omega)))
def ABS (s : List UInt8) : List Value × Bool := if s.length = 9 then ((decA s).cells, true) else (ac0.cells, false)
theorem taka_any (s : ByteArray) (w : World) : Calls Tryz.prog 122 #[.string s] w (AB w (ABS (sb s))) := by
 unfold ABS
 rw [sb_len]
 by_cases h : s.size = 9
 ·
  rw [if_pos h]; exact taka_yes s w h
 ·
  rw [if_neg h]; exact taka_no s w (bne_iff_ne.2 (by omega))
/-! ### ids -/
def NB (w : World) (r : Nat × Bool) (e : Ending) (w' : World) : Prop := e = .returned (.tuple #[.int .u64 (r.1 : Int), .bool r.2]) ∧ Below w.heap.size w w'
theorem taki_no (s : ByteArray) (w : World) (h : ((s.size : Int) != 8) = true) : Calls Tryz.prog 130 #[.string s] w (NB w (0, false)) := by
 have HP := hid (fun P c W => take_no s P 1 c W (by omega) h)
 have HB := hid (((Below.refl w.heap.size w).alloc (Nat.le_refl _) (.cells #[.int .u64 0] 29)).alloc (by simp) (.cells #[.pointer (some ⟨w.heap.size, 0, none⟩)] 162))
 go_enter Tryz.func130, Tryz.ntmps130
 go_wp2_with (go_at_call 126; refine (HP.out _ _ _).mono ?_; rintro e w2 ⟨rfl, rfl⟩)
 go_ret2
 exact ⟨rfl, HB.out⟩
theorem taki_yes (s : ByteArray) (w : World) (h : s.size = 8) : Calls Tryz.prog 130 #[.string s] w (NB w (decI (sb s), true)) := by
 have H8 : Hid (s.size = 8 * 1) := hid h
 have HE : Hid (took [.int .u64 0] (sb s) [0] 1 = [.int .u64 (decI (sb s) : Int)]) := hid rfl
 generalize decI (sb s) = x at *
 have HW := hid (show Row ((w.alloc (.cells #[.int .u64 0] 29)).alloc (.cells #[.pointer (some ⟨w.heap.size, 0, none⟩)] 162)) w.heap.size 29 [.int .u64 0] from Row.alloc (Row.new _ _ _) _)
 have HPT := hid (show Rd ((w.alloc (.cells #[.int .u64 0] 29)).alloc (.cells #[.pointer (some ⟨w.heap.size, 0, none⟩)] 162)) (w.heap.size + 2) (some ⟨w.heap.size + 1, 0, none⟩) (ptrs w.heap.size [0]) from
  Row.rd (e := 162) (alloc2_new _ _ _) (by omega))
 have HB := hid (((Below.refl w.heap.size w).alloc (Nat.le_refl _) (.cells #[.int .u64 0] 29)).alloc (by simp) (.cells #[.pointer (some ⟨w.heap.size, 0, none⟩)] 162))
 clear h
 go_enter Tryz.func130, Tryz.ntmps130
 go_wp2_with (go_at_call 126; refine (take_yes s w.heap.size (w.heap.size + 1) 0 1 1 (w.heap.size + 2) 29 [.int .u64 0] [0] _ (by omega) (by omega) rfl H8.out HW.out HPT.out (by omega) (by omega) (by intro o ho; simp at ho; subst ho; simp)).mono ?_; rintro e w2 ⟨rfl, hr2, hg2⟩; rw [HE.out] at hr2; have hc2 := hr2.cell 0; simp only [List.getElem?_cons_zero] at hc2)
 go_ret2
 exact ⟨rfl, HB.out.trans (below_grown hg2 (Nat.le_refl _) (by simp; omega))⟩
def NBS (s : List UInt8) : Nat × Bool := if s.length = 8 then (decI s, true) else (0, false)
theorem taki_any (s : ByteArray) (w : World) : Calls Tryz.prog 130 #[.string s] w (NB w (NBS (sb s))) := by
 unfold NBS
 rw [sb_len]
 by_cases h : s.size = 8
 ·
  rw [if_pos h]; exact taki_yes s w h
 ·
  rw [if_neg h]; exact taki_no s w (bne_iff_ne.2 (by omega))
def TBS (s : List UInt8) : List Value × Bool := if s.length = 32 then ((decT s).cells, true) else (tr0.cells, false)
theorem took_tr (s : List UInt8) : took tr0.cells s [0, 1, 2, 3] 4 = (decT s).cells := rfl
theorem takt_any (s : ByteArray) (w : World) : Calls Tryz.prog 125 #[.string s] w (AB w (TBS (sb s))) := by
 have HZ := hid trSize
 have hres : TBS (sb s) = if s.size = 32 then ((decT (sb s)).cells, true) else (tr0.cells, false) := by unfold TBS; rw [sb_len]
 rw [hres]
 clear hres
 have HE := hid (took_tr (sb s))
 have HCL : Hid ((decT (sb s)).cells.length = 4) := hid rfl
 have HC1 : Hid ((decT (sb s)).cells.all (·.oneCell') = true) := hid rfl
 generalize (decT (sb s)).cells = C at *
 have HZR := hid (show Row (((w.alloc (.cells tr0.cells.toArray 82)).alloc (.cells tr0.cells.toArray 82)).alloc (.cells (ptrs (w.heap.size + 1) [0, 1, 2, 3]).toArray 162)) w.heap.size 82 tr0.cells from
  Row.alloc (Row.alloc (Row.new _ _ _) _) _)
 have HW := hid (show Row (((w.alloc (.cells tr0.cells.toArray 82)).alloc (.cells tr0.cells.toArray 82)).alloc (.cells (ptrs (w.heap.size + 1) [0, 1, 2, 3]).toArray 162)) (w.heap.size + 1) 82 tr0.cells from
  Row.alloc (alloc2_new _ _ _) _)
 have HPT := hid (show Rd (((w.alloc (.cells tr0.cells.toArray 82)).alloc (.cells tr0.cells.toArray 82)).alloc (.cells (ptrs (w.heap.size + 1) [0, 1, 2, 3]).toArray 162)) (w.heap.size + 3) (some ⟨w.heap.size + 1 + 1, 0, none⟩) (ptrs (w.heap.size + 1) [0, 1, 2, 3]) from
  Row.rd (e := 162) (by
   have := Row.new ((w.alloc (.cells tr0.cells.toArray 82)).alloc (.cells tr0.cells.toArray 82)) 162 (ptrs (w.heap.size + 1) [0, 1, 2, 3]).toArray
   simp only [World.size_alloc] at this
   exact this) (by omega))
 have HB := hid ((((Below.refl w.heap.size w).alloc (Nat.le_refl _) (.cells tr0.cells.toArray 82)).alloc (by simp) (.cells tr0.cells.toArray 82)).alloc (by simp; omega) (.cells (ptrs (w.heap.size + 1) [0, 1, 2, 3]).toArray 162))
 by_cases h : s.size = 32
 ·
  rw [if_pos h]
  have H32 : Hid (s.size = 8 * 4) := hid h
  clear h
  go_enter Tryz.func125, Tryz.ntmps125
  go_wp2_with (first
   | (go_at_call 126; refine (take_yes s (w.heap.size + 1) (w.heap.size + 1 + 1) 0 4 4 (w.heap.size + 3) 82 tr0.cells [0, 1, 2, 3] _ (by omega) (by omega) rfl H32.out HW.out HPT.out (by omega) (by omega) (by intro o ho; simp at ho; show o < 4; omega)).mono ?_; rintro e w2 ⟨rfl, hr2, hg2⟩; rw [HE.out] at hr2; have hz2 := HZR.out.grown hg2 (by simp))
   | (refine wpList_load_row rfl 82 (.tmp 4) rfl (w.heap.size + 1) rfl 82 _ (0, 0) _ hr2.arr' Tryz.underlying82 rfl (by rw [List.size_toArray, HCL.out]; exact HZ.out) ?_)
   | (refine wpl_store_st rfl (.tmp 2) (.tmp 13) rfl HZ.out w.heap.size tr0.cells _ rfl rfl hz2 ?_ (hid rfl) (hid HCL.out) (hid HC1.out); intro w3 hr3 hg3))
  refine bodyPost_ret (results_cell1 rfl _ _ w.heap.size 82 _ (0, 0) _ (.bool true) rfl rfl hr3.arr' Tryz.underlying82 rfl (by rw [List.size_toArray, HCL.out]; exact HZ.out)) rfl ⟨rfl, ?_⟩
  exact HB.out.trans ((below_grown hg2 (by omega) (by simp; omega)).trans (below_grown hg3 (Nat.le_refl _) (by have := hg2.size; simp at this; omega)))
 ·
  rw [if_neg h]
  have HP := hid (fun P W => take_no s P 4 4 W (by omega) (bne_iff_ne.2 (by omega)))
  clear h
  go_enter Tryz.func125, Tryz.ntmps125
  go_wp2_with (first
   | (go_at_call 126; refine (HP.out _ _).mono ?_; rintro e w2 ⟨rfl, rfl⟩)
   | (refine wpList_load_row rfl 82 (.tmp 4) rfl (w.heap.size + 1) rfl 82 _ (0, 0) _ HW.out.arr' Tryz.underlying82 rfl HZ.out ?_)
   | (refine wpl_store_st rfl (.tmp 2) (.tmp 13) rfl HZ.out w.heap.size tr0.cells tr0.cells rfl rfl HZR.out ?_ (hid rfl) (hid rfl) (hid rfl); intro w3 hr3 hg3))
  refine bodyPost_ret (results_cell1 rfl _ _ w.heap.size 82 tr0.cells.toArray (0, 0) _ (.bool false) rfl rfl hr3.arr' Tryz.underlying82 rfl HZ.out) rfl ⟨rfl, ?_⟩
  exact HB.out.trans (below_grown hg3 (Nat.le_refl _) HB.out.size)
end Go.Proofs.YtgednnjmcjhfmaaGreatDoor
namespace Go.Proofs.YtgednnjmcjhfmaaGreatDoor
open Go.RowKit
set_option maxHeartbeats 80000000
structure Lg where
 A : List Ac
 T : List Tr
/-- an account that can be laid -/
def Ac.flat (x : Ac) : Prop := x.ok ∧ 0 ≤ x.flags ∧ x.flags ≤ 255
structure Lg.WF (S : Lg) : Prop where
 la : S.A.length ≤ 8
 lt : S.T.length ≤ 16
 oa : ∀ x ∈ S.A, x.flat
 ot : ∀ x ∈ S.T, x.ok
def Lg.nil : Lg := ⟨[], []⟩
theorem Lg.nil_wf : Lg.nil.WF := ⟨by simp [Lg.nil], by simp [Lg.nil], by simp [Lg.nil], by simp [Lg.nil]⟩
/-- where the first one with an id stands; behind the last, if there is none -/
def at_ {α : Type} (key : α → Nat) (id : Nat) (l : List α) : Nat := l.findIdx (fun x => key x == id)
theorem at_le {α : Type} (key : α → Nat) (id : Nat) (l : List α) : at_ key id l ≤ l.length := List.findIdx_le_length
theorem at_before {α : Type} (key : α → Nat) (id : Nat) (l : List α) (k : Nat) (h : k < at_ key id l) (hl : k < l.length) : key l[k] ≠ id := by
 have := List.not_of_lt_findIdx h
 simpa using this
theorem at_here {α : Type} (key : α → Nat) (id : Nat) (l : List α) (h : at_ key id l < l.length) : key l[at_ key id l] = id := by
 have := List.findIdx_getElem (p := fun x => key x == id) (w := h)
 exact eq_of_beq this
theorem at_this {α : Type} (key : α → Nat) (id : Nat) (l : List α) (k : Nat) (hk : k ≤ at_ key id l) (hl : k < l.length) (h : key l[k] = id) : at_ key id l = k := by
 rcases Nat.lt_or_ge k (at_ key id l) with h1 | h1
 ·
  exact absurd h (at_before key id l k h1 hl)
 ·
  omega
def Lg.fa (S : Lg) (id : Nat) : Nat := at_ Ac.id id S.A
def Lg.ft (S : Lg) (id : Nat) : Nat := at_ Tr.a id S.T
def Lg.ac (S : Lg) (i : Nat) : Ac := S.A.getD i ac0
def Lg.tr (S : Lg) (i : Nat) : Tr := S.T.getD i tr0
/-- what becomes of an account that is asked for -/
def Lg.ja (S : Lg) (x : Ac) : Nat :=
 if x.id = 0 then 1 else if S.fa x.id < S.A.length then 2 else if 1 < x.flags then 3 else if S.A.length = 8 then 10 else 0
def Lg.opn (S : Lg) (x : Ac) : Lg := if S.ja x = 0 then ⟨S.A ++ [x], S.T⟩ else S
/-- what becomes of a transfer -/
def Lg.jt (S : Lg) (t : Tr) : Nat :=
 if t.a = 0 then 1 else if S.ft t.a < S.T.length then 2 else if t.b = t.c then 4 else if ¬ S.fa t.b < S.A.length then 5 else if ¬ S.fa t.c < S.A.length then 6
 else if t.d = 0 then 7 else if ¬ U64 ((S.ac (S.fa t.b)).deb + t.d) ∨ ¬ U64 ((S.ac (S.fa t.c)).cre + t.d) then 8
 else if (S.ac (S.fa t.b)).flags = 1 ∧ (S.ac (S.fa t.b)).cre < (S.ac (S.fa t.b)).deb + t.d then 9 else if S.T.length = 16 then 10 else 0
def deb_ (n : Nat) (x : Ac) : Ac := ⟨x.id, x.flags, x.deb + n, x.cre⟩
def cre_ (n : Nat) (x : Ac) : Ac := ⟨x.id, x.flags, x.deb, x.cre + n⟩
def Lg.paid (S : Lg) (t : Tr) : List Ac := (S.A.modify (S.fa t.b) (deb_ t.d)).modify (S.fa t.c) (cre_ t.d)
def Lg.mov (S : Lg) (t : Tr) : Lg := if S.jt t = 0 then ⟨S.paid t, S.T ++ [t]⟩ else S
def acB (x : Ac) : List UInt8 := (wholeB x).1
def trL (x : Tr) : List UInt8 := (trB x).getD []
def mka (S : Lg) (x : Ac) : Lg × List UInt8 := (S.opn x, [UInt8.ofNat (S.ja x)])
def mkt (S : Lg) (t : Tr) : Lg × List UInt8 := (S.mov t, [UInt8.ofNat (S.jt t)])
def tela (S : Lg) (id : Nat) : Lg × List UInt8 := (S, if S.fa id < S.A.length then 1 :: acB (S.ac (S.fa id)) else [0])
def telt (S : Lg) (id : Nat) : Lg × List UInt8 := (S, if S.ft id < S.T.length then 1 :: trL (S.tr (S.ft id)) else [0])
/-- one by one -/
def runL {α : Type} (f : Lg → α → Lg × List UInt8) (S : Lg) (l : List α) : Lg × List UInt8 := l.foldl (fun r x => ((f r.1 x).1, r.2 ++ (f r.1 x).2)) (S, [0])
theorem runL_snoc {α : Type} (f : Lg → α → Lg × List UInt8) (S : Lg) (l : List α) (x : α) : runL f S (l ++ [x]) = ((f (runL f S l).1 x).1, (runL f S l).2 ++ (f (runL f S l).1 x).2) := by
 simp [runL]
theorem runL_take {α : Type} (f : Lg → α → Lg × List UInt8) (S : Lg) (l : List α) (k : Nat) (h : k < l.length) : runL f S (l.take (k + 1)) = ((f (runL f S (l.take k)).1 l[k]).1, (runL f S (l.take k)).2 ++ (f (runL f S (l.take k)).1 l[k]).2) := by
 rw [List.take_succ_eq_append_getElem h, runL_snoc]
def eachL {α : Type} (f : Lg → α → Lg × List UInt8) (S : Lg) (r : List α × Bool) : Lg × List UInt8 := if r.2 = true then runL f S r.1 else (S, [1])
def Lg.doo (S : Lg) (op : Int) (s : List UInt8) : Lg × List UInt8 :=
 if op = 2 then eachL mka S (takL 9 decA s) else if op = 3 then eachL mkt S (takL 32 decT s) else if op = 4 then eachL tela S (takL 8 decI s) else if op = 5 then eachL telt S (takL 8 decI s) else (S, [1])
/-- how many, and each one's bytes -/
def layL {α : Type} (f : α → List UInt8) (l : List α) : List UInt8 := UInt8.ofNat l.length :: l.flatMap f
def Lg.pack (S : Lg) : List UInt8 := layL acB S.A ++ layL trL S.T
/-! ### what stays -/
theorem getD_mem {α : Type} {l : List α} {i : Nat} {d : α} (h : i < l.length) : l.getD i d = l[i] := by rw [List.getD, List.getElem?_eq_getElem h]; rfl
theorem Lg.ac_get (S : Lg) (i : Nat) (h : i < S.A.length) : S.ac i = S.A[i] := getD_mem h
theorem Lg.tr_get (S : Lg) (i : Nat) (h : i < S.T.length) : S.tr i = S.T[i] := getD_mem h
theorem Lg.ja_le (S : Lg) (x : Ac) : S.ja x ≤ 10 := by unfold Lg.ja; (repeat' split) <;> omega
theorem Lg.jt_le (S : Lg) (t : Tr) : S.jt t ≤ 10 := by unfold Lg.jt; (repeat' split) <;> omega
/-- what a transfer that is Done asks -/
structure Lg.Moves (S : Lg) (t : Tr) : Prop where
 id : t.a ≠ 0
 new : S.ft t.a = S.T.length
 sides : t.b ≠ t.c
 hb : S.fa t.b < S.A.length
 hc : S.fa t.c < S.A.length
 pos : t.d ≠ 0
 ob : U64 (S.A[S.fa t.b].deb + t.d)
 oc : U64 (S.A[S.fa t.c].cre + t.d)
 flag : ¬ (S.A[S.fa t.b].flags = 1 ∧ S.A[S.fa t.b].cre < S.A[S.fa t.b].deb + t.d)
 room : S.T.length ≠ 16
theorem Lg.moves {S : Lg} {t : Tr} (h : S.jt t = 0) : S.Moves t := by
 unfold Lg.jt at h
 by_cases h1 : t.a = 0
 ·
  rw [if_pos h1] at h; omega
 rw [if_neg h1] at h
 by_cases h2 : S.ft t.a < S.T.length
 ·
  rw [if_pos h2] at h; omega
 rw [if_neg h2] at h
 by_cases h3 : t.b = t.c
 ·
  rw [if_pos h3] at h; omega
 rw [if_neg h3] at h
 by_cases h4n : ¬ S.fa t.b < S.A.length
 ·
  rw [if_pos h4n] at h; omega
 rw [if_neg h4n] at h
 have h4 : S.fa t.b < S.A.length := by omega
 by_cases h5n : ¬ S.fa t.c < S.A.length
 ·
  rw [if_pos h5n] at h; omega
 rw [if_neg h5n] at h
 have h5 : S.fa t.c < S.A.length := by omega
 by_cases h6 : t.d = 0
 ·
  rw [if_pos h6] at h; omega
 rw [if_neg h6, S.ac_get _ h4, S.ac_get _ h5] at h
 by_cases h7 : ¬ U64 (S.A[S.fa t.b].deb + t.d) ∨ ¬ U64 (S.A[S.fa t.c].cre + t.d)
 ·
  rw [if_pos h7] at h; omega
 rw [if_neg h7] at h
 by_cases h8 : S.A[S.fa t.b].flags = 1 ∧ S.A[S.fa t.b].cre < S.A[S.fa t.b].deb + t.d
 ·
  rw [if_pos h8] at h; omega
 rw [if_neg h8] at h
 by_cases h9 : S.T.length = 16
 ·
  rw [if_pos h9] at h; omega
 have := at_le Tr.a t.a S.T
 exact ⟨h1, by unfold Lg.ft at h2 ⊢; omega, h3, h4, h5, h6, Classical.byContradiction fun h => h7 (.inl h), Classical.byContradiction fun h => h7 (.inr h), h8, h9⟩
theorem Lg.Moves.ne {S : Lg} {t : Tr} (h : S.Moves t) : S.fa t.b ≠ S.fa t.c := by
 intro e
 have h1 := at_here Ac.id t.b S.A h.hb
 have h2 := at_here Ac.id t.c S.A h.hc
 have e2 : S.A[at_ Ac.id t.b S.A]'h.hb = S.A[at_ Ac.id t.c S.A]'h.hc := by
  have : at_ Ac.id t.b S.A = at_ Ac.id t.c S.A := e
  congr 1
 rw [e2, h2] at h1
 exact h.sides h1.symm
theorem Lg.paid_len (S : Lg) (t : Tr) : (S.paid t).length = S.A.length := by simp [Lg.paid]
theorem Lg.paid_get {S : Lg} {t : Tr} (h : S.Moves t) (i : Nat) (hi : i < S.A.length) : (S.paid t)[i]'(by rw [S.paid_len]; exact hi) = if i = S.fa t.b then deb_ t.d S.A[i] else if i = S.fa t.c then cre_ t.d S.A[i] else S.A[i] := by
 unfold Lg.paid
 rw [List.getElem_modify]
 have hn := h.ne
 by_cases h1 : S.fa t.c = i
 ·
  rw [if_pos h1, List.getElem_modify, if_neg (by omega), if_neg (by omega), if_pos h1.symm]
 ·
  rw [if_neg h1, List.getElem_modify]
  by_cases h2 : S.fa t.b = i
  ·
   rw [if_pos h2, if_pos h2.symm]
  ·
   rw [if_neg h2, if_neg (Ne.symm h2), if_neg (Ne.symm h1)]
theorem Lg.opn_wf {S : Lg} (h : S.WF) (x : Ac) (hx : x.flat) : (S.opn x).WF := by
 unfold Lg.opn
 split
 ·
  rename_i hj
  have h8 : S.A.length ≠ 8 := by
   intro e
   unfold Lg.ja at hj
   (repeat' split at hj) <;> omega
  refine ⟨?_, h.lt, ?_, h.ot⟩
  ·
   have := h.la
   simp only [List.length_append, List.length_cons, List.length_nil]
   omega
  ·
   intro y hy
   rcases List.mem_append.1 hy with hy | hy
   ·
    exact h.oa y hy
   ·
    rw [List.mem_singleton.1 hy]; exact hx
 ·
  exact h
theorem Lg.paid_flat {S : Lg} (h : S.WF) {t : Tr} (hm : S.Moves t) : ∀ x ∈ S.paid t, x.flat := by
 intro x hx
 obtain ⟨i, hi, rfl⟩ := List.getElem_of_mem hx
 have hi2 : i < S.A.length := by rw [S.paid_len] at hi; exact hi
 have ho := h.oa _ (List.getElem_mem hi2)
 rw [Lg.paid_get hm i hi2]
 split
 ·
  rename_i e
  subst e
  exact ⟨⟨ho.1.1, ho.1.2.1, hm.ob, ho.1.2.2.2⟩, ho.2⟩
 ·
  split
  ·
   rename_i e
   subst e
   exact ⟨⟨ho.1.1, ho.1.2.1, ho.1.2.2.1, hm.oc⟩, ho.2⟩
  ·
   exact ho
theorem Lg.mov_wf {S : Lg} (h : S.WF) (t : Tr) (ht : t.ok) : (S.mov t).WF := by
 unfold Lg.mov
 split
 ·
  rename_i hj
  have hm := Lg.moves hj
  refine ⟨by rw [S.paid_len]; exact h.la, ?_, Lg.paid_flat h hm, ?_⟩
  ·
   have := h.lt
   have := hm.room
   simp only [List.length_append, List.length_cons, List.length_nil]
   omega
  ·
   intro y hy
   rcases List.mem_append.1 hy with hy | hy
   ·
    exact h.ot y hy
   ·
    rw [List.mem_singleton.1 hy]; exact ht
 ·
  exact h
theorem runL_wf {α : Type} {f : Lg → α → Lg × List UInt8} {ok : α → Prop} (hf : ∀ S x, S.WF → ok x → (f S x).1.WF) {S : Lg} (hS : S.WF) : ∀ (l : List α), (∀ x ∈ l, ok x) → (runL f S l).1.WF := by
 intro l
 have key : ∀ (l : List α) (r : Lg × List UInt8), r.1.WF → (∀ x ∈ l, ok x) → (l.foldl (fun r x => ((f r.1 x).1, r.2 ++ (f r.1 x).2)) r).1.WF := by
  intro l
  induction l with
  | nil => intro r hr _; exact hr
  | cons x t ih => intro r hr hl; exact ih _ (hf _ _ hr (hl x (by simp))) (fun y hy => hl y (by simp [hy]))
 exact key l (S, [0]) hS
/-- what is taken of bytes can be laid -/
theorem at8_lt (s : List UInt8) (i : Nat) : U64 (at8 s i) := by
 unfold at8
 have key : ∀ l : List UInt8, leV l < 2 ^ (8 * l.length) := by
  intro l
  induction l with
  | nil => simp [leV]
  | cons c r ih =>
   rw [leV, List.length_cons, show 8 * (r.length + 1) = 8 + 8 * r.length by omega, Nat.pow_add]
   have := UInt8.toNat_lt c
   have h2 : (2 : Nat) ^ 8 = 256 := rfl
   rw [h2]
   omega
 have h1 := key ((s.drop i).take 8)
 have h2 : ((s.drop i).take 8).length ≤ 8 := List.length_take_le _ _
 have h3 : 2 ^ (8 * ((s.drop i).take 8).length) ≤ 2 ^ 64 := Nat.pow_le_pow_right (by omega) (by omega)
 have h4 : (2 : Nat) ^ 64 = 18446744073709551616 := by decide
 omega
theorem decA_flat (p : List UInt8) : (decA p).flat := by
 have h := UInt8.toNat_lt (p.getD 8 0)
 refine ⟨⟨at8_lt _ _, ⟨?_, ?_⟩, ?_, ?_⟩, ?_, ?_⟩
 ·
  show -9223372036854775808 ≤ ((p.getD 8 0).toNat : Int); omega
 ·
  show ((p.getD 8 0).toNat : Int) ≤ 9223372036854775807; omega
 ·
  show (0 : Nat) < _; omega
 ·
  show (0 : Nat) < _; omega
 ·
  show (0 : Int) ≤ ((p.getD 8 0).toNat : Int); omega
 ·
  show ((p.getD 8 0).toNat : Int) ≤ 255; omega
theorem decT_ok (p : List UInt8) : (decT p).ok := ⟨at8_lt _ _, at8_lt _ _, at8_lt _ _, at8_lt _ _⟩
theorem decI_ok (p : List UInt8) : U64 (decI p) := at8_lt _ _
theorem takL_all {α : Type} {n : Nat} {d : List UInt8 → α} {s : List UInt8} {ok : α → Prop} (h : ∀ p, ok (d p)) : ∀ x ∈ (takL n d s).1, ok x := by
 unfold takL
 split
 ·
  simp
 ·
  intro x hx
  obtain ⟨i, _, rfl⟩ := List.mem_map.1 hx
  exact h _
theorem takL_le {α : Type} (n : Nat) (d : List UInt8 → α) (s : List UInt8) : (takL n d s).1.length ≤ 4 := by
 unfold takL
 split
 ·
  simp
 ·
  rw [List.length_map, List.length_range]; omega
theorem Lg.doo_wf {S : Lg} (h : S.WF) (op : Int) (s : List UInt8) : (S.doo op s).1.WF := by
 have key : ∀ {α : Type} (f : Lg → α → Lg × List UInt8) (ok : α → Prop) (r : List α × Bool), (∀ S x, S.WF → ok x → (f S x).1.WF) → (∀ x ∈ r.1, ok x) → (eachL f S r).1.WF := by
  intro α f ok r hf hr
  unfold eachL
  split
  ·
   exact runL_wf hf h r.1 hr
  ·
   exact h
 unfold Lg.doo
 split
 ·
  exact key mka Ac.flat _ (fun S x hS hx => Lg.opn_wf hS x hx) (takL_all decA_flat)
 split
 ·
  exact key mkt Tr.ok _ (fun S x hS hx => Lg.mov_wf hS x hx) (takL_all decT_ok)
 split
 ·
  exact key tela U64 _ (fun S x hS _ => hS) (takL_all decI_ok)
 split
 ·
  exact key telt U64 _ (fun S x hS _ => hS) (takL_all decI_ok)
 ·
  exact h
theorem acB_len (x : Ac) (h : x.flat) : (acB x).length = 25 := by
 unfold acB wholeB
 rw [if_pos h.2]
 simp [le_len]
theorem acB_le (x : Ac) : (acB x).length ≤ 25 := by
 unfold acB wholeB
 split <;> simp [le_len]
theorem trL_len (x : Tr) : (trL x).length = 32 := by simp [trL, trB, le_len]
end Go.Proofs.YtgednnjmcjhfmaaGreatDoor
