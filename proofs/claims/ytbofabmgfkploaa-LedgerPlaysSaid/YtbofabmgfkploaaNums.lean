/-
  The walks of package event's lay and take, and of the document's Eight, At, Flags, many.
-/
import Derived.Test.YtbofabmgfkploaaEv
import Derived.Test.YtbofabmgfkploaaPreb
namespace Go.Proofs.Ytbofabmgfkploaa
open Go.RowKit
set_option maxRecDepth 10000

/-- a text -/
def SE (w : World) (r : List UInt8) (e : Ending) (w' : World) : Prop := e = .returned (.string ⟨r.toArray⟩) ∧ Below w.heap.size w w'
/-- a value, and what was there is as it was -/
def VE (w : World) (v : Value) (e : Ending) (w' : World) : Prop := e = .returned v ∧ Below w.heap.size w w'

theorem cat_mk (a b : List UInt8) : (⟨a.toArray⟩ : ByteArray) ++ ⟨b.toArray⟩ = ⟨(a ++ b).toArray⟩ := by
  apply ByteArray.ext
  simp
theorem own_base {w : World} {B B' e size n : Nat} {v : Value} {xs : List Value} (h : w.ownsRow B e size v n xs) (hB : B' ≤ B) : w.ownsRow B' e size v n xs := by
  obtain ⟨h1, h2⟩ := h
  refine ⟨h1, ?_⟩
  rcases h2 with h2 | ⟨g, cap, cur, e1, a, b⟩
  · exact .inl h2
  · exact .inr ⟨g, cap, cur, e1, by omega, b⟩
theorem own_below {w w' : World} {B e size n : Nat} {v : Value} {xs : List Value} (h : w.ownsRow B e size v n xs) (hb : Below w.heap.size w w') : w'.ownsRow B e size v n xs := by
  obtain ⟨h1, h2⟩ := h
  refine ⟨h1, ?_⟩
  rcases h2 with h2 | ⟨g, cap, cur, e1, a, b, c⟩
  · exact .inl h2
  · exact .inr ⟨g, cap, cur, e1, a, (hb.block g (Array.getElem?_eq_some_iff.1 b).1).trans b, c⟩
theorem BE.len {w w' : World} {r : List UInt8} {e : Ending} {n : Nat} {x : Int} (h : BE w (r, x) e w') (hn : r.length = n) :
    ∃ A c, e = .returned (.tuple #[.slice A n c, .int .i64 x]) ∧ w'.ownsRow w.heap.size 5 1 (.slice A n c) n (bvs r) ∧ Below w.heap.size w w' := by
  subst hn
  exact h
theorem alloc2_new (w : World) (o1 o2 : Obj) : ((w.alloc o1).alloc o2).heap[w.heap.size + 1]? = some o2 := by
  have := heap_alloc_new (w.alloc o1) o2
  simpa using this

section
variable {w w' w'' : World} {r : Option Nat}
theorem gtrans (h : w.grownBy w' r) (h' : w'.grownBy w'' r) : w.grownBy w'' r :=
  ⟨h'.os.trans h.os, h'.tape.trans h.tape, h'.output.trans h.output, Nat.le_trans h.size h'.size, fun k hk hr => (h'.block k (Nat.lt_of_lt_of_le hk h.size) hr).trans (h.block k hk hr)⟩
theorem gbelow {B : Nat} (h : Below B w w') (hB : w.heap.size ≤ B) (r : Option Nat) : w.grownBy w' r := ⟨h.os, h.tape, h.output, h.size, fun k hk _ => h.block k (by omega)⟩
theorem gset (w : World) (g i : Nat) (u : Value) : w.grownBy (w.setCell ⟨g, i, none⟩ u) (some g) :=
  ⟨rfl, rfl, rfl, by simp, fun k _ hr => heap_setCell_other w ⟨g, i, none⟩ k u (by intro e; exact hr (by rw [e]))⟩
end

/-- the numbers' bytes -/
def leAll (l : List Nat) : List UInt8 := l.flatMap (fun n => le n 8)
theorem leAll_len (l : List Nat) : (leAll l).length = 8 * l.length := by
  unfold leAll
  induction l with
  | nil => rfl
  | cons a r ih => rw [List.flatMap_cons, List.length_append, ih, le_len, List.length_cons]; omega
theorem leAll_take (l : List Nat) (k : Nat) (h : k < l.length) : leAll (l.take (k + 1)) = leAll (l.take k) ++ le l[k] 8 := by
  unfold leAll
  rw [List.take_succ_eq_append_getElem h, List.flatMap_append, List.flatMap_cons, List.flatMap_nil, List.append_nil]

/-- Put of eight bytes -/
theorem put_eight (A : Option Addr) (bs : List UInt8) (m c n B : Nat) (W : World) (hr : Rd W B A (bvs bs)) (hm : m = bs.length) (hn : U64 n) (hB : B ≤ W.heap.size) (hl : m ≤ 140737488351232) :
    Calls Try.prog 89 #[.slice A m c, .int .u64 (n : Int), .int .i64 8] W
    fun e w' => ∃ A c, e = .returned (.tuple #[.slice A (m + 8) c, .int .i64 0]) ∧ w'.ownsRow W.heap.size 5 1 (.slice A (m + 8) c) (m + 8) (bvs (bs ++ le n 8)) ∧ Below W.heap.size W w' := by
  subst hm
  have h := put_any A bs bs.length c n B 8 W hr rfl hB hl
  have e : putS bs n 8 = (bs ++ le n 8, 0) := by
    unfold putS
    rw [if_pos ⟨by omega, by omega, Nat.div_eq_of_lt (by simpa using hn)⟩]
    rfl
  rw [e] at h
  exact h.mono fun e w' hh => BE.len hh (by simp [le_len])
theorem rput_eight (W : World) (n B : Nat) (A : Option Addr) (c : Nat) (hn : U64 n) (hr : Rd W B A []) (hB : B ≤ W.heap.size) :
    Calls Try.prog 97 #[.slice A 0 c, .int .u64 (n : Int), .int .i64 8] W
    fun e w' => ∃ A c, e = .returned (.tuple #[.slice A 8 c, .int .i64 0]) ∧ Rd w' w'.heap.size A (bvs (le n 8)) ∧ Below W.heap.size W w' := by
  have h := rput_any A [] 0 c n B 8 W hr rfl hB (by omega) (hid hn)
  have e : putS [] n 8 = (le n 8, 0) := by
    unfold putS
    rw [if_pos ⟨by omega, by omega, Nat.div_eq_of_lt (by simpa using hn)⟩]
    rfl
  rw [e] at h
  refine h.mono fun e w' hh => ?_
  obtain ⟨A', c', e1, ho, hb⟩ := BE.len hh (le_len _ _)
  obtain ⟨A2, c2, e2, _, _, hrd⟩ := own_shape ho
  cases e2
  exact ⟨A', c', e1, hrd, hb⟩

set_option maxHeartbeats 1000000 in
theorem lay_nums (A : Option Addr) (l : List Nat) (n c B : Nat) (w : World) (hr : Rd w B A (rows Ic l)) (hn : n = l.length) (h0 : 0 < n) (hl : n ≤ 4) (hnc : n ≤ c) (h64 : ∀ x ∈ l, U64 x) (hB : B ≤ w.heap.size) :
    Calls Try.prog 54 #[.slice A n c] w (SE w (leAll l)) := by
  have hcl := rows_len (C := Ic) Ic_len l
  obtain ⟨g, o, rfl, hg, hcell⟩ := hr (by intro e; rw [e] at hcl; simp at hcl; omega)
  have hget : ∀ W : World, Below w.heap.size w W → ∀ k (hk : k < l.length), W.cell? ⟨g, o + k, none⟩ = some (.int .u64 (l[k] : Int)) := fun W hW k hk => by
    rw [hW.cell (p := ⟨g, o + k, none⟩) (by show g < _; omega)]
    exact hcell k _ (by
      have := rows_get (C := Ic) Ic_len l k 0 hk (by omega)
      simpa [Ic] using this)
  have HGET := hid hget
  have HN := hid hn
  have H64 := hid (fun k (hk : k < l.length) => h64 l[k] (List.getElem_mem hk))
  clear hget hcell hr hn h64 hcl
  go_enter Try.func54, Try.ntmps54
  go_wp2_with fail
  go_loopw [3, 8] (fun b i wr => ∃ k : Nat, k ≤ n ∧ i = .int .i64 k ∧ (∃ A c, b = .slice A (8 * k) c ∧ wr.ownsRow w.heap.size 5 1 (.slice A (8 * k) c) (8 * k) (bvs (leAll (l.take k)))) ∧ Below w.heap.size w wr) (fun _ i _ => n - (intOf i).toNat)
  case atStart => exact ⟨0, by omega, rfl, ⟨none, 0, rfl, World.ownsRow_nil _ _ _ _⟩, Below.refl _ _⟩
  case round =>
    obtain ⟨k, hk, rfl, ⟨A, c1, rfl, hown⟩, hbe⟩ := hrel
    have HBe := hid hbe
    have hsz := hbe.size
    obtain ⟨A', c', hv, -, -, hrd⟩ := own_shape hown
    cases hv
    by_cases hlt : k < n
    · have hkl : k < l.length := by rw [← HN.out]; exact hlt
      have hc := HGET.out wr hbe k hkl
      have HT := hid (leAll_take l k hkl)
      have hlen : 8 * k = (leAll (l.take k)).length := by rw [leAll_len, List.length_take, Nat.min_eq_left (by omega)]
      have HP := hid (put_eight A (leAll (l.take k)) (8 * k) c1 l[k] wr.heap.size wr hrd hlen (H64.out k hkl) (Nat.le_refl _) (by omega))
      rw [← HT.out] at HP
      generalize l[k] = x at hc HP
      clear hown hbe hrd hlen HT
      go_wp2_with (go_at_call 89; refine HP.out.mono ?_; rintro e w2 ⟨A2, c2, rfl, hown2, hb2⟩)
      exact ⟨⟨k + 1, by omega, by go_num, ⟨A2, c2, rfl, own_base hown2 hsz⟩, HBe.out.trans (hb2.mono hsz)⟩, by simp [intOf]; omega⟩
    · obtain rfl : k = n := by omega
      have HT : Hid (l.take k = l) := hid (List.take_of_length_le (by rw [HN.out]; exact Nat.le_refl _))
      rw [HT.out] at hrd
      have HL : Hid (8 * k = (leAll l).length) := hid (by rw [leAll_len, ← HN.out])
      clear hown
      go_wp2_with (with_reducible refine wpl_str rfl _ 116 9 rfl 5 Try.underlying116 Try.underlying5 Try.underlying9 A (8 * k) c1 rfl wr.heap.size (leAll l) ?_ (hid hrd) (hid HL.out))
      go_ret
      exact ⟨rfl, HBe.out⟩

set_option maxHeartbeats 400000 in
theorem eight_any (n : Nat) (w : World) (hn : U64 n) : Calls Try.prog 87 #[.int .u64 (n : Int)] w (SE w (le n 8)) := by
  have HP := hid (fun W A c B (h1 : Rd W B A []) h2 => rput_eight W n B A c hn h1 h2)
  have HL := hid (le_len 8 n)
  go_enter Try.func87, Try.ntmps87
  go_wp2_with (first
    | (go_at_call 97; refine (HP.out _ _ _ 0 Rd.nil (Nat.zero_le _)).mono ?_; rintro e w1 ⟨A, c, rfl, hrd, hb⟩)
    | (with_reducible refine wpl_str rfl _ 116 9 rfl 5 Try.underlying116 Try.underlying5 Try.underlying9 A 8 c rfl w1.heap.size (le n 8) ?_ (hid hrd) (hid HL.out.symm)))
  go_ret
  exact ⟨rfl, ((Below.refl _ _).alloc (Nat.le_refl _) _).trans (hb.mono (by simp))⟩
end Go.Proofs.Ytbofabmgfkploaa
