/-
  A journal in memory: its disk, its row; what each call leaves.
-/
import Derived.Test.YtafbeepacncooaaDoorP02
import Derived.Test.YtafbeepacncooaaDoorM15
namespace Go.Proofs.YtafbeepacncooaaDoor
open Go.RowKit
set_option maxRecDepth 10000

/-! ### lists as arrays, under short names -/
theorem U1 {α : Type} {xs : List α} {i : Nat} (h : i < xs.toArray.size) : xs.toArray[i] = xs[i]'(by simpa using h) := List.getElem_toArray h
theorem U2 {α : Type} (a : α) (xs : List α) (i : Nat) (h : i + 1 < (a :: xs).length) : (a :: xs)[i + 1] = xs[i]'(by simpa using h) := List.getElem_cons_succ a xs i h
theorem U3 {α : Type} (a : α) (xs : List α) (h : 0 < (a :: xs).length) : (a :: xs)[0] = a := rfl
theorem U4 {α : Type} (l : List α) (i : Nat) (a : α) : l.toArray.setIfInBounds i a = (l.set i a).toArray := List.setIfInBounds_toArray ..
theorem U5 {α : Type} {x : α} {xs : List α} {n : Nat} {a : α} : (x :: xs).set (n + 1) a = x :: xs.set n a := rfl
theorem U6 {α : Type} {x : α} {xs : List α} {a : α} : (x :: xs).set 0 a = a :: xs := rfl
section
variable {P : Program} {ops : Array Oper} {Q : Exit → Act → World → Prop} {md : Region.Mode} {S : World → Prop} {i : Nat} {oi : Oper} {v : Value} {fuel : Nat} {listed : Array Bool} {a : Act} {w : World}
/-- an operation that only looks is taken -/
theorem tk_ (hi : ops[i]? = some oi) (hy : YieldsIf P ops S oi v a) (hS : S w) (h : wpAnyH P md ops Q S fuel (listed.setIfInBounds i true) (a.put oi.dst v) w) (hs : Region.noSelect ops = true := by kernel_rfl) (hf : Region.free md ops listed i = true := by kernel_rfl)
  (hr : (Region.ready md ops listed).contains i = true := by kernel_rfl) (hQ : ∀ c a w, Q (.panic c) (a.put oi.dst v) w → Q (.panic c) a w := by exact fun _ _ _ h => h) : wpAnyH P md ops Q S (fuel + 1) listed a w := wpAnyH_take hi hs hf hr hQ hy hS h
end
/-- what lies in G is as it was -/
def Ek (w w' : World) (G : List Nat) : Prop := ∀ g ∈ G, w'.heap[g]? = w.heap[g]?
section
variable {w w' w'' : World} {G G' : List Nat}
theorem Ek.refl (w : World) (G : List Nat) : Ek w w G := fun _ _ => rfl
theorem Ek.trans (h : Ek w w' G) (k : Ek w' w'' G) : Ek w w'' G := fun g hg => (k g hg).trans (h g hg)
theorem Ek.tail {g : Nat} (h : Ek w w' (g :: G)) : Ek w w' G := fun x hx => h x (List.mem_cons_of_mem _ hx)
theorem Ek.sub (h : Ek w w' G) (hs : ∀ g ∈ G', g ∈ G) : Ek w w' G' := fun x hx => h x (hs x hx)
theorem Ek.row {g : Nat} {e : TypeId} {cs : List Value} (h : Ek w w' G) (hr : Row w g e cs) (hg : g ∈ G) : Row w' g e cs := (h g hg).trans hr
end
/-- a disk S at p, made since w0, the blocks G apart -/
def Dd (w0 w : World) (p gs : Nat) (S : Sp) (G : List Nat) : Prop :=
 ∃ vd, HasD w p gs vd S ∧ (∀ b ∈ fpD p gs vd, w0.heap.size ≤ b ∧ b ∉ G) ∧ Below w0.heap.size w0 w ∧ (∀ g ∈ G, g < w.heap.size) ∧ Fd w0
section
variable {w0 w w' w'' : World} {p gs : Nat} {S S' : Sp} {G G' : List Nat}
theorem Dd.below (h : Dd w0 w p gs S G) : Below w0.heap.size w0 w := by
 obtain ⟨_, _, _, h, _⟩ := h
 exact h
theorem Dd.size (h : Dd w0 w p gs S G) : w0.heap.size ≤ w.heap.size := h.below.size
theorem Dd.lt (h : Dd w0 w p gs S G) : ∀ g ∈ G, g < w.heap.size := by
 obtain ⟨_, _, _, _, h, _⟩ := h
 exact h
theorem Dd.fd (h : Dd w0 w p gs S G) : Fd w := by
 obtain ⟨_, _, _, hb, _, hf⟩ := h
 exact hf.below hb hf.1
theorem Dd.wf (h : Dd w0 w p gs S G) : S.WF := by
 obtain ⟨_, h, _⟩ := h
 exact h.wf
/-- new memory -/
theorem Dd.new (h : Dd w0 w p gs S G) (hb : Below w.heap.size w w') : Dd w0 w' p gs S G ∧ Ek w w' G := by
 have hl := h.lt
 obtain ⟨vd, h1, h2, h3, h4, h5⟩ := h
 exact ⟨⟨vd, h1.fr (Fr.of_below hb) (by simp), h2, h3.trans (hb.mono h3.size), fun g hg => Nat.lt_of_lt_of_le (h4 g hg) hb.size, h5⟩, fun g hg => hb.block g (hl g hg)⟩
/-- a block that is new is put apart -/
theorem Dd.add (h : Dd w0 w p gs S G) (hb : Below w.heap.size w w') {g : Nat} (hg : w.heap.size ≤ g) (hlt : g < w'.heap.size) : Dd w0 w' p gs S (g :: G) := by
 obtain ⟨vd, h1, h2, h3, h4, h5⟩ := h
 refine ⟨vd, h1.fr (Fr.of_below hb) (by simp), fun b hb' => ⟨(h2 b hb').1, ?_⟩, h3.trans (hb.mono h3.size), fun x hx => ?_, h5⟩
 ·
  have := h1.lt b hb'
  simp only [List.mem_cons, not_or]
  exact ⟨by omega, (h2 b hb').2⟩
 ·
  rcases List.mem_cons.1 hx with rfl | hx
  ·
   exact hlt
  ·
   exact Nat.lt_of_lt_of_le (h4 x hx) hb.size
theorem Dd.sub (h : Dd w0 w p gs S G) (hs : ∀ g ∈ G', g ∈ G) : Dd w0 w p gs S G' := by
 obtain ⟨vd, h1, h2, h3, h4, h5⟩ := h
 exact ⟨vd, h1, fun b hb => ⟨(h2 b hb).1, fun hm => (h2 b hb).2 (hs b hm)⟩, h3, fun g hg => h4 g (hs g hg), h5⟩
theorem Dd.tail {g : Nat} (h : Dd w0 w p gs S (g :: G)) : Dd w0 w p gs S G := h.sub fun _ hx => List.mem_cons_of_mem _ hx
/-- a block apart is turned -/
theorem Dd.put (h : Dd w0 w p gs S G) {g : Nat} (hg : g ∈ G) (h0 : w0.heap.size ≤ g) (hb : w.grownBy w' (some g)) : Dd w0 w' p gs S G := by
 obtain ⟨vd, h1, h2, h3, h4, h5⟩ := h
 refine ⟨vd, h1.fr (fp := [g]) ((Fr.refl w [g]).grown hb (fun k hk => .inl (by simp [Option.some.inj hk]))) (fun b hb' hn => ?_), h2, h3.trans (below_grown hb h0 h3.size), fun x hx => Nat.lt_of_lt_of_le (h4 x hx) hb.size, h5⟩
 rw [List.mem_singleton.1 hn] at hb'
 exact (h2 g hb').2 hg
theorem ek_put {g : Nat} (hb : w.grownBy w' (some g)) (hl : ∀ x ∈ G, x < w.heap.size) (hg : g ∉ G) : Ek w w' G := fun x hx => hb.block x (hl x hx) (fun e => hg (by rw [← Option.some.inj e]; exact hx))
/-- a call on the disk -/
def DC (w0 w : World) (p gs : Nat) (S' : Sp) (G : List Nat) (v : Value) (e : Ending) (w' : World) : Prop := e = .returned v ∧ Dd w0 w' p gs S' G ∧ Ek w w' G
theorem Dd.step {vd : Value} (h1 : HasD w p gs vd S) (h2 : ∀ b ∈ fpD p gs vd, w0.heap.size ≤ b ∧ b ∉ G) (h3 : Below w0.heap.size w0 w) (h4 : ∀ g ∈ G, g < w.heap.size) (h5 : Fd w0) (hd : DX w p gs vd S' w') : Dd w0 w' p gs S' G ∧ Ek w w' G := by
 obtain ⟨vd', k1, k2, k3⟩ := hd
 have hs := h3.size
 refine ⟨⟨vd', k1, fun b hb => ?_, h3.trans (k2.below (fun b hb => (h2 b hb).1) h3.size), fun g hg => Nat.lt_of_lt_of_le (h4 g hg) k2.size, h5⟩, fun g hg => k2.block g (h4 g hg) (fun hn => (h2 g hn).2 hg)⟩
 simp only [fpD, List.mem_cons, Option.mem_toList] at hb
 rcases hb with rfl | rfl | hb
 ·
  exact h2 _ (by simp [fpD])
 ·
  exact h2 _ (by simp [fpD])
 ·
  rcases k3 b hb with h | h
  ·
   exact h2 b (by simp [fpD, h])
  ·
   exact ⟨by omega, fun hg => by have := h4 b hg; omega⟩
theorem Dd.call {P : Program} {f : FuncId} {args : Array Value} {x : Int} (h : Dd w0 w p gs S G) (H : ∀ vd, HasD w p gs vd S → Calls P f args w (DY w p gs vd S' x)) : Calls P f args w (DC w0 w p gs S' G (.int .i64 x)) := by
 obtain ⟨vd, h1, h2, h3, h4, h5⟩ := h
 refine (H vd h1).mono ?_
 rintro e w' ⟨rfl, hd⟩
 exact ⟨rfl, Dd.step h1 h2 h3 h4 h5 hd⟩
theorem dd_read (h : Dd w0 w p gs S G) (hc : S.count ≤ 1048576) (i : Int) {l : List UInt8} {x : Int} (hr : S.read i = (l, x)) : Calls Tryd.prog 26 #[.pointer (some ⟨p, 0, none⟩), .int .i64 i] w (DC w0 w p gs S G (.tuple #[.string ⟨l.toArray⟩, .int .i64 x])) := by
 obtain ⟨vd, h1, h2, h3, h4, h5⟩ := h
 refine (dy_read h1 hc i hr).mono ?_
 rintro e w' ⟨rfl, hd⟩
 exact ⟨rfl, Dd.step h1 h2 h3 h4 h5 hd⟩
theorem dd_write (h : Dd w0 w p gs S G) (hc : S.count ≤ 1048576) (i : Int) (s : ByteArray) {x : Int} (hr : S.write i (sb s) = (S', x)) : Calls Tryd.prog 47 #[.pointer (some ⟨p, 0, none⟩), .int .i64 i, .string s] w (DC w0 w p gs S' G (.int .i64 x)) :=
 h.call fun _ h1 => dy_write h1 hc i s hr
theorem dd_flush (h : Dd w0 w p gs S G) (hc : S.count ≤ 1048576) {x : Int} (hr : S.flush = (S', x)) : Calls Tryd.prog 49 #[.pointer (some ⟨p, 0, none⟩)] w (DC w0 w p gs S' G (.int .i64 x)) :=
 h.call fun _ h1 => dy_flush h1 hc hr
end

/-! ### the journal's row -/
/-- what the slots have, slot by slot -/
def Jn.slots (J : Jn) : List It := (List.range 8).map fun (s : Nat) => J.item (slotN J.c s)
theorem Jn.slots_len (J : Jn) : J.slots.length = 8 := by simp [Jn.slots]
theorem Jn.slots_get (J : Jn) {s : Nat} (h : s < 8) : J.slots[s]? = some (J.item (slotN J.c s)) := by simp [Jn.slots, h]
def itC (x : It) : List Value := x.cells.toList
theorem itC_len (x : It) : (itC x).length = 15 := rfl
/-- a journal's cells -/
def jC (p : Nat) (c : Int) (l : List It) : List Value := .pointer (some ⟨p, 0, none⟩) :: .int .i64 c :: (l.map itC).flatten
theorem itC_flat (l : List It) : (l.map itC).flatten.length = l.length * 15 := by
 rw [flat_length 15 _ (by simp [itC_len])]
 simp
theorem jC_len (p : Nat) (c : Int) (l : List It) : (jC p c l).length = 2 + l.length * 15 := by
 simp only [jC, List.length_cons, itC_flat]
 omega
theorem jC_get (p : Nat) (c : Int) {l : List It} {s j : Nat} (h : s < l.length) (hj : j < 15) : (jC p c l)[2 + s * 15 + j]? = (itC l[s])[j]? := by
 have e : (l.map itC).flatten[s * 15 + j]? = (itC l[s])[j]? := by
  rw [flat_get 15 (l.map itC) s j (by simp [itC_len]) hj, List.getElem?_map, List.getElem?_eq_getElem h]
  rfl
 rw [show 2 + s * 15 + j = (s * 15 + j) + 1 + 1 by omega]
 exact e
theorem jC_splice (p : Nat) (c : Int) {l : List It} {s : Nat} (h : s < l.length) (x : It) : splice (jC p c l) (2 + s * 15) (itC x) = jC p c (l.set s x) := by
 have e := flat_splice 15 (l.map itC) s 0 (itC x) (by simpa using h) (by simp [itC_len]) (by simp [itC_len])
 have e2 : splice ((l.map itC)[s]'(by simpa using h)) 0 (itC x) = itC x := by
  unfold splice
  rw [List.take_zero, List.nil_append, List.drop_of_length_le, List.append_nil]
  simp [itC_len]
 rw [Nat.add_zero, e2] at e
 have e3 : splice (jC p c l) (2 + s * 15) (itC x) = .pointer (some ⟨p, 0, none⟩) :: .int .i64 c :: splice (l.map itC).flatten (s * 15) (itC x) := by
  unfold splice jC
  rw [show 2 + s * 15 = s * 15 + 1 + 1 by omega, show s * 15 + 1 + 1 + (itC x).length = s * 15 + (itC x).length + 1 + 1 by omega]
  rfl
 rw [e3, e, jC, List.map_set]
/-- a journal at jp, its disk at p, made since w0, the blocks G apart -/
def Jd (w0 w : World) (jp p gs : Nat) (S : Sp) (J : Jn) (G : List Nat) : Prop := Dd w0 w p gs S (jp :: G) ∧ Row w jp 69 (jC p J.c J.slots) ∧ w0.heap.size ≤ jp ∧ jp ∉ G
def JC (w0 w : World) (jp p gs : Nat) (S' : Sp) (J' : Jn) (G : List Nat) (v : Value) (e : Ending) (w' : World) : Prop := e = .returned v ∧ Jd w0 w' jp p gs S' J' G ∧ Ek w w' G
section
variable {w0 w w' w'' : World} {jp p gs : Nat} {S S' : Sp} {J J' : Jn} {G G' : List Nat}
theorem Jd.row (h : Jd w0 w jp p gs S J G) : Row w jp 69 (jC p J.c J.slots) := h.2.1
theorem Jd.fd (h : Jd w0 w jp p gs S J G) : Fd w := h.1.fd
theorem Jd.wf (h : Jd w0 w jp p gs S J G) : S.WF := h.1.wf
theorem Jd.size (h : Jd w0 w jp p gs S J G) : w0.heap.size ≤ w.heap.size := h.1.size
theorem Jd.below (h : Jd w0 w jp p gs S J G) : Below w0.heap.size w0 w := h.1.below
theorem Jd.lt (h : Jd w0 w jp p gs S J G) : ∀ g ∈ G, g < w.heap.size := fun g hg => h.1.lt g (List.mem_cons_of_mem _ hg)
theorem Jd.jlt (h : Jd w0 w jp p gs S J G) : jp < w.heap.size := h.1.lt jp (by simp)
theorem Jd.c0 (h : Jd w0 w jp p gs S J G) : w.cell? ⟨jp, 0, none⟩ = some (.pointer (some ⟨p, 0, none⟩)) := h.row.at_ 0 _ rfl
theorem Jd.c1 (h : Jd w0 w jp p gs S J G) : w.cell? ⟨jp, 1, none⟩ = some (.int .i64 J.c) := h.row.at_ 1 _ rfl
theorem Jd.f (h : Jd w0 w jp p gs S J G) (i : Nat) : w.frozen? ⟨jp, i, none⟩ = false := h.row.frozen i
theorem Jd.new (h : Jd w0 w jp p gs S J G) (hb : Below w.heap.size w w') : Jd w0 w' jp p gs S J G ∧ Ek w w' G := by
 obtain ⟨k1, k2⟩ := h.1.new hb
 exact ⟨⟨k1, k2.row h.2.1 (by simp), h.2.2⟩, k2.tail⟩
theorem Jd.add (h : Jd w0 w jp p gs S J G) (hb : Below w.heap.size w w') {g : Nat} (hg : w.heap.size ≤ g) (hlt : g < w'.heap.size) : Jd w0 w' jp p gs S J (g :: G) := by
 have hj := h.jlt
 have k1 := h.1.add hb hg hlt
 obtain ⟨_, k2⟩ := h.1.new hb
 refine ⟨k1.sub ?_, k2.row h.2.1 (by simp), h.2.2.1, ?_⟩
 ·
  intro x hx
  simp only [List.mem_cons] at hx ⊢
  rcases hx with h | h | h
  ·
   exact .inr (.inl h)
  ·
   exact .inl h
  ·
   exact .inr (.inr h)
 ·
  simp only [List.mem_cons, not_or]
  exact ⟨by omega, h.2.2.2⟩
theorem Jd.sub (h : Jd w0 w jp p gs S J G) (hs : ∀ g ∈ G', g ∈ G) : Jd w0 w jp p gs S J G' := ⟨h.1.sub (fun g hg => by
 rcases List.mem_cons.1 hg with rfl | hg
 ·
  simp
 ·
  exact List.mem_cons_of_mem _ (hs g hg)), h.2.1, h.2.2.1, fun hn => h.2.2.2 (hs _ hn)⟩
theorem Jd.tail {g : Nat} (h : Jd w0 w jp p gs S J (g :: G)) : Jd w0 w jp p gs S J G := h.sub fun _ hx => List.mem_cons_of_mem _ hx
/-- a block apart is turned -/
theorem Jd.put (h : Jd w0 w jp p gs S J G) {g : Nat} (hg : g ∈ G) (h0 : w0.heap.size ≤ g) (hb : w.grownBy w' (some g)) : Jd w0 w' jp p gs S J G :=
 ⟨h.1.put (List.mem_cons_of_mem _ hg) h0 hb, (ek_put (G := [jp]) hb (by simpa using h.jlt) (by simp; rintro rfl; exact h.2.2.2 hg)).row h.2.1 (by simp), h.2.2⟩
/-- the journal itself is turned -/
theorem Jd.turn (h : Jd w0 w jp p gs S J G) (hb : w.grownBy w' (some jp)) (hr : Row w' jp 69 (jC p J'.c J'.slots)) : Jd w0 w' jp p gs S J' G ∧ Ek w w' G :=
 ⟨⟨h.1.put (by simp) h.2.2.1 hb, hr, h.2.2⟩, ek_put hb h.lt h.2.2.2⟩
/-- a call on the disk -/
theorem Jd.callD {P : Program} {f : FuncId} {args : Array Value} {v : Value} (h : Jd w0 w jp p gs S J G) (H : Dd w0 w p gs S (jp :: G) → Calls P f args w (DC w0 w p gs S' (jp :: G) v)) : Calls P f args w (JC w0 w jp p gs S' J G v) :=
 (H h.1).mono fun _ _ ⟨k0, k1, k2⟩ => ⟨k0, ⟨k1, k2.row h.2.1 (by simp), h.2.2⟩, k2.tail⟩
/-- cells of a slot -/
theorem Jd.cell (h : Jd w0 w jp p gs S J G) {s j : Nat} (hs : s < 8) (hj : j < 15) {v : Value} (hv : (itC (J.item (slotN J.c s)))[j]? = some v) : w.cell? ⟨jp, 2 + s * 15 + j, none⟩ = some v := by
 have hl := J.slots_len
 rw [h.row.cell, jC_get p J.c (by omega) hj]
 have := J.slots_get hs
 rw [List.getElem?_eq_getElem (by omega)] at this
 rw [Option.some.inj this]
 exact hv
theorem Jd.range (h : Jd w0 w jp p gs S J G) {s : Nat} (hs : s < 8) : w.rangeAt jp (2 + s * 15) (itC (J.item (slotN J.c s))) := fun j v hv => by
 have hj : j < 15 := (List.getElem?_eq_some_iff.1 hv).1
 exact h.cell hs hj hv
end
/-- what is turned, slot by slot -/
theorem slots_set {J : Jn} (hl : J.x.length = 8) {s : Nat} (h : s < 8) (x : It) : J.slots.set s x = (J.set (slotN J.c s) x).slots := by
 apply List.ext_getElem?
 intro i
 by_cases hi : i < 8
 ·
  rw [List.getElem?_set, Jn.slots_len, (J.set (slotN J.c s) x).slots_get hi, J.slots_get hi]
  have hs := slotN_in J.c s
  have e := set_item hl (n := slotN J.c s) (m := slotN J.c i) x hs
  show _ = some ((J.set (slotN J.c s) x).item (slotN J.c i))
  rw [e]
  by_cases hsi : s = i
  ·
   subst hsi
   simp [h]
  ·
   rw [if_neg hsi, if_neg]
   intro e2
   have h1 := slotN_mod J.c s h
   have h2 := slotN_mod J.c i hi
   rw [e2] at h2
   omega
 ·
  rw [List.getElem?_eq_none (by simp [Jn.slots_len]; omega), List.getElem?_eq_none (by rw [Jn.slots_len]; omega)]
end Go.Proofs.YtafbeepacncooaaDoor
/-
  The walks of package journal's small functions: has, slotOf, operation, was, Check, look.
-/
namespace Go.Proofs.YtafbeepacncooaaDoor
open Go.RowKit
set_option maxRecDepth 10000

theorem w64 {x : Int} (h1 : -9223372036854775808 ≤ x) (h2 : x ≤ 9223372036854775807) : IntKind.i64.wrap x = x := by rw [IntKind.wrap_i64]; omega
section
variable {w0 w : World} {jp p gs : Nat} {S : Sp} {J : Jn} {G : List Nat}
theorem has_any13 (h : Jd w0 w jp p gs S J G) (h0 : 0 ≤ J.c) (h1 : J.c ≤ 72057594037927927) (n : Int) : Calls Tryd.prog 33 #[.pointer (some ⟨jp, 0, none⟩), .int .i64 n] w fun e w' => e = .returned (.bool (decide (J.has n))) ∧ w = w' := by
 have c1 := h.c1
 have hw : IntKind.i64.wrap (J.c + 8) = J.c + 8 := w64 (by omega) (by omega)
 by_cases ha : J.c < n
 ·
  by_cases hb : n ≤ J.c + 8
  ·
   have e : decide (J.has n) = true := by simp [Jn.has, ha, hb]
   rw [e]
   clear h e
   go_enter Tryd.func33, Tryd.ntmps33
   go_wp2_with fail
   go_ret
   exact ⟨rfl, rfl⟩
  ·
   have e : decide (J.has n) = false := decide_eq_false (by unfold Jn.has; omega)
   rw [e]
   clear h e
   go_enter Tryd.func33, Tryd.ntmps33
   go_wp2_with fail
   go_ret
   exact ⟨rfl, rfl⟩
 ·
  have e : decide (J.has n) = false := decide_eq_false (by unfold Jn.has; omega)
  rw [e]
  clear h e
  go_enter Tryd.func33, Tryd.ntmps33
  go_wp2_with fail
  go_ret
  exact ⟨rfl, rfl⟩
theorem tmod8 {n : Int} (h : 0 ≤ n) : n.tmod 8 = n % 8 := by rw [Int.tmod_eq_emod_of_nonneg h]
theorem slotOf_any (n : Int) (h : 0 ≤ n) (w : World) : Calls Tryd.prog 34 #[.int .i64 n] w fun e w' => e = .returned (.int .i64 (n % 8)) ∧ w = w' := by
 have ht := tmod8 h
 have hw : IntKind.i64.wrap (n % 8) = n % 8 := w64 (by omega) (by omega)
 go_enter Tryd.func34, Tryd.ntmps34
 go_wp2_with fail
 go_ret
 exact ⟨rfl, rfl⟩
theorem oper_any (h : Jd w0 w jp p gs S J G) (h0 : 0 ≤ J.c) (h1 : J.c ≤ 72057594037927927) (s : Nat) (hs : s < 8) : Calls Tryd.prog 62 #[.pointer (some ⟨jp, 0, none⟩), .int .i64 (s : Int)] w fun e w' => e = .returned (.int .i64 (slotN J.c s)) ∧ w = w' := by
 have c1 := h.c1
 have hw : IntKind.i64.wrap (J.c + 1) = J.c + 1 := w64 (by omega) (by omega)
 have hr := slotOf_any (J.c + 1) (by omega) w
 have e1 : IntKind.i64.wrap ((s : Int) - (J.c + 1) % 8) = (s : Int) - (J.c + 1) % 8 := w64 (by omega) (by omega)
 have e2 : IntKind.i64.wrap ((s : Int) - (J.c + 1) % 8 + 8) = (s : Int) - (J.c + 1) % 8 + 8 := w64 (by omega) (by omega)
 have e3 : ((s : Int) - (J.c + 1) % 8 + 8).tmod 8 = ((s : Int) - (J.c + 1) % 8 + 8) % 8 := tmod8 (by omega)
 have e4 : IntKind.i64.wrap (((s : Int) - (J.c + 1) % 8 + 8) % 8) = ((s : Int) - (J.c + 1) % 8 + 8) % 8 := w64 (by omega) (by omega)
 have e5 : IntKind.i64.wrap (J.c + 1 + ((s : Int) - (J.c + 1) % 8 + 8) % 8) = J.c + 1 + ((s : Int) - (J.c + 1) % 8 + 8) % 8 := w64 (by omega) (by omega)
 have e6 : J.c + 1 + ((s : Int) - (J.c + 1)) % 8 = slotN J.c s := by unfold slotN; omega
 have HR := hid hr
 have H6 := hid e6
 clear h hr e6
 go_enter Tryd.func62, Tryd.ntmps62
 go_wp2_with (go_at_call 34; refine HR.out.mono ?_; rintro e w1 ⟨rfl, rfl⟩)
 go_ret
 exact ⟨by rw [← H6.out]; rfl, rfl⟩
theorem was_any (x : It) (w : World) : Calls Tryd.prog 42 #[.agg x.cells] w fun e w' => e = .returned (.bool (decide (x.kind = 1 ∨ x.kind = 2))) ∧ Below w.heap.size w w' := by
 have HB := hid ((Below.refl w.heap.size w).alloc (Nat.le_refl _) (.cells x.cells 44))
 have c0 : (w.alloc (.cells x.cells 44)).cell? ⟨w.heap.size, 0, none⟩ = some (.int .i64 x.kind) := (Row.new w 44 x.cells).at_ 0 _ rfl
 generalize x.kind = k at *
 generalize x.cells = C at *
 by_cases h1 : k = 1
 ·
  subst h1
  go_enter Tryd.func42, Tryd.ntmps42
  go_wp2_with fail
  go_ret
  exact ⟨rfl, HB.out⟩
 ·
  have e1 : (k == 1) = false := by simpa using h1
  by_cases h2 : k = 2
  ·
   subst h2
   go_enter Tryd.func42, Tryd.ntmps42
   go_wp2_with fail
   go_ret
   exact ⟨rfl, HB.out⟩
  ·
   have e2 : (k == 2) = false := by simpa using h2
   rw [decide_eq_false (by omega)]
   go_enter Tryd.func42, Tryd.ntmps42
   go_wp2_with fail
   go_ret
   exact ⟨rfl, HB.out⟩
theorem check_any (h : Jd w0 w jp p gs S J G) : Calls Tryd.prog 22 #[.pointer (some ⟨jp, 0, none⟩)] w fun e w' => e = .returned (.int .i64 J.c) ∧ w = w' := by
 have c1 := h.c1
 clear h
 go_enter Tryd.func22, Tryd.ntmps22
 go_wp2_with fail
 go_ret
 exact ⟨rfl, rfl⟩
/-- what look tells -/
def lookP (S : Sp) (s : Nat) : List UInt8 × List UInt8 × Int :=
 if (S.read ((4 + s : Nat) : Int)).2 ≠ 0 then ([], [], (S.read ((4 + s : Nat) : Int)).2) else if (S.read ((12 + s : Nat) : Int)).2 ≠ 0 then ([], [], (S.read ((12 + s : Nat) : Int)).2) else ((S.read ((4 + s : Nat) : Int)).1, (S.read ((12 + s : Nat) : Int)).1, 0)
theorem lookj_any (h : Dd w0 w p gs S G) (hc : S.count ≤ 1048576) (s : Nat) (hs : s < 8) :
  Calls Tryd.prog 46 #[.pointer (some ⟨p, 0, none⟩), .int .i64 (s : Int)] w (DC w0 w p gs S G (.tuple #[.string ⟨(lookP S s).1.toArray⟩, .string ⟨(lookP S s).2.1.toArray⟩, .int .i64 (lookP S s).2.2])) := by
 have e1 : IntKind.i64.wrap (4 + (s : Int)) = ((4 + s : Nat) : Int) := by rw [w64 (by omega) (by omega)]; omega
 have e2 : IntKind.i64.wrap (12 + (s : Int)) = ((12 + s : Nat) : Int) := by rw [w64 (by omega) (by omega)]; omega
 have HP := hid (dd_read h hc ((4 + s : Nat) : Int) (l := (S.read ((4 + s : Nat) : Int)).1) (x := (S.read ((4 + s : Nat) : Int)).2) rfl)
 have HH : Hid (∀ W, Dd w0 W p gs S G → Calls Tryd.prog 26 #[.pointer (some ⟨p, 0, none⟩), .int .i64 ((12 + s : Nat) : Int)] W (DC w0 W p gs S G (.tuple #[.string ⟨(S.read ((12 + s : Nat) : Int)).1.toArray⟩, .int .i64 (S.read ((12 + s : Nat) : Int)).2]))) := hid fun W hW => dd_read hW hc _ rfl
 unfold lookP
 generalize ((4 + s : Nat) : Int) = a at *
 generalize ((12 + s : Nat) : Int) = b at *
 generalize S.read a = R at *
 generalize S.read b = T at *
 obtain ⟨l, x⟩ := R
 obtain ⟨m, y⟩ := T
 simp only at *
 clear h hc
 by_cases hx : x = 0
 ·
  subst hx
  rw [if_neg (by simp)]
  by_cases hy : y = 0
  ·
   subst hy
   rw [if_neg (by simp)]
   go_enter Tryd.func46, Tryd.ntmps46
   go_wp2_with (first
    | (go_at_call_of 26 (Value.int IntKind.i64 a); refine HP.out.mono ?_; rintro e w1 ⟨rfl, h1, k1⟩; have H1 := hid h1; have K1 := hid k1; clear h1 k1)
    | (go_at_call_of 26 (Value.int IntKind.i64 b); refine (HH.out _ H1.out).mono ?_; rintro e w2 ⟨rfl, h2, k2⟩; have H2 := hid h2; have K2 := hid k2; clear h2 k2))
   go_ret3
   exact ⟨rfl, H2.out, K1.out.trans K2.out⟩
  ·
   have hy2 : (y != 0) = true := by simpa using hy
   rw [if_pos hy]
   clear hy
   go_enter Tryd.func46, Tryd.ntmps46
   go_wp2_with (first
    | (go_at_call_of 26 (Value.int IntKind.i64 a); refine HP.out.mono ?_; rintro e w1 ⟨rfl, h1, k1⟩; have H1 := hid h1; have K1 := hid k1; clear h1 k1)
    | (go_at_call_of 26 (Value.int IntKind.i64 b); refine (HH.out _ H1.out).mono ?_; rintro e w2 ⟨rfl, h2, k2⟩; have H2 := hid h2; have K2 := hid k2; clear h2 k2))
   go_ret3
   exact ⟨rfl, H2.out, K1.out.trans K2.out⟩
 ·
  have hx2 : (x != 0) = true := by simpa using hx
  rw [if_pos hx]
  clear hx
  go_enter Tryd.func46, Tryd.ntmps46
  go_wp2_with (first
   | (go_at_call_of 26 (Value.int IntKind.i64 a); refine HP.out.mono ?_; rintro e w1 ⟨rfl, h1, k1⟩; have H1 := hid h1; have K1 := hid k1; clear h1 k1))
  go_ret3
  exact ⟨rfl, H1.out, K1.out⟩
end
end Go.Proofs.YtafbeepacncooaaDoor
/-
  The walks of package journal's layers: what is to be laid, and how each text is made.
-/
namespace Go.Proofs.YtafbeepacncooaaDoor
open Go.RowKit
set_option maxRecDepth 10000

/-- []T{x}, x a value of many cells, as a step of the walk -/
theorem wpl_slice1 {P : Program} {ops : Array Oper} {rest : List Oper} {o : Oper} {a : Act} {w : World} {Q : Exit → Act → World → Prop} (hgd : o.guard = none) (t e : TypeId) (x : Operand) (ho : o.op = .buildSlice t 1 #[(0, x)])
  (ie : TypeInfo) (z : Value) (size : Nat) (hu : P.underlying t = some (.slice e)) (hie : P.info? e = some ie) (hz : ie.zero = some z) (hs : ie.size = size) (hpos : 0 < size) (hsmall : size ≤ 16777216)
  (cs : List Value) (hx : a.eval x = .agg cs.toArray) (hl : cs.length = size)
  (h : wpList P ops Q rest (a.put o.dst (.slice (some ⟨w.heap.size, 0, none⟩) 1 1)) (w.alloc (.cells cs.toArray e))) : wpList P ops Q (o :: rest) a w :=
 wpList_plain hgd fun _ hK => wp_slice1 t e x ho ie z size hu hie hz hs hpos hsmall cs hx hl (hK _ _ h)
theorem layInfo : ∃ ie, Tryd.prog.info? 87 = some ie ∧ ie.zero = some (.agg #[.int .i64 0, .nilFunc]) ∧ ie.size = 2 := by
 have e : (Tryd.prog.info? 87).map (fun i => (i.zero, i.size)) = some (some (.agg #[.int .i64 0, .nilFunc]), 2) := by kernel_rfl
 obtain ⟨i, hi, he⟩ := Option.map_eq_some_iff.1 e
 obtain ⟨h1, h2⟩ := Prod.mk.inj he
 exact ⟨i, hi, h1, h2⟩
/-- a closure that makes an entry's sector, a stub's; the one that makes a void one -/
def feV (g : Nat) : Value := .func (.func 76) #[] #[.pointer (some ⟨g, 0, none⟩)]
def fsV (g : Nat) : Value := .func (.func 78) #[] #[.pointer (some ⟨g, 0, none⟩)]
def fvV : Value := .func (.func 44) #[] #[]
theorem we_any (C : Array Value) (w : World) : Calls Tryd.prog 63 #[.agg C] w fun e w' => e = .returned (feV w.heap.size) ∧ w' = w.alloc (.cells C 28) := by
 go_enter Tryd.func63, Tryd.ntmps63
 go_wp2_with fail
 go_ret
 exact ⟨rfl, rfl⟩
theorem ws_any (C : Array Value) (w : World) : Calls Tryd.prog 64 #[.agg C] w fun e w' => e = .returned (fsV w.heap.size) ∧ w' = w.alloc (.cells C 42) := by
 go_enter Tryd.func64, Tryd.ntmps64
 go_wp2_with fail
 go_ret
 exact ⟨rfl, rfl⟩
theorem laySize : (Tryd.prog.info? 87).map (·.size) = some 2 := by kernel_rfl
theorem prep_e (s : Nat) (g : Nat) (w : World) (hs : s < 8) : Calls Tryd.prog 45 #[.int .i64 (s : Int), feV g] w (VE w (.agg #[.int .i64 ((4 + s : Nat) : Int), feV g])) := by
 have HZ := hid laySize
 have e1 : IntKind.i64.wrap (4 + (s : Int)) = ((4 + s : Nat) : Int) := by rw [w64 (by omega) (by omega)]; omega
 generalize ((4 + s : Nat) : Int) = a at *
 unfold feV
 go_enter Tryd.func45, Tryd.ntmps45
 go_wp2_with (refine wpl_store_st rfl (.tmp 4) (.tmp 8) rfl (n := 2) HZ.out w.heap.size #[.int .i64 0, .nilFunc] #[.int .i64 a, feV g] rfl rfl (Row.new _ _ _) ?_ (hid rfl) (hid rfl) (hid (by simp [Value.oneCell', feV])); intro w7 HR7 HB7)
 exact bodyPost_ret (v := .agg #[.int .i64 a, feV g]) (results_cell_row rfl _ _ w.heap.size 87 #[.int .i64 a, feV g] (0, 0) _ rfl HR7.arr Tryd.underlying87 rfl HZ.out) rfl ⟨rfl, ((Below.refl w.heap.size w).alloc (Nat.le_refl _) _).trans (below_grown HB7 (Nat.le_refl _) (by simp))⟩
theorem prep_v (s : Nat) (w : World) (hs : s < 8) : Calls Tryd.prog 45 #[.int .i64 (s : Int), fvV] w (VE w (.agg #[.int .i64 ((4 + s : Nat) : Int), fvV])) := by
 have HZ := hid laySize
 have e1 : IntKind.i64.wrap (4 + (s : Int)) = ((4 + s : Nat) : Int) := by rw [w64 (by omega) (by omega)]; omega
 generalize ((4 + s : Nat) : Int) = a at *
 unfold fvV
 go_enter Tryd.func45, Tryd.ntmps45
 go_wp2_with (refine wpl_store_st rfl (.tmp 4) (.tmp 8) rfl (n := 2) HZ.out w.heap.size #[.int .i64 0, .nilFunc] #[.int .i64 a, fvV] rfl rfl (Row.new _ _ _) ?_ (hid rfl) (hid rfl) (hid (by simp [Value.oneCell', fvV])); intro w7 HR7 HB7)
 exact bodyPost_ret (v := .agg #[.int .i64 a, fvV]) (results_cell_row rfl _ _ w.heap.size 87 #[.int .i64 a, fvV] (0, 0) _ rfl HR7.arr Tryd.underlying87 rfl HZ.out) rfl ⟨rfl, ((Below.refl w.heap.size w).alloc (Nat.le_refl _) _).trans (below_grown HB7 (Nat.le_refl _) (by simp))⟩
theorem head_s (s : Nat) (g : Nat) (w : World) (hs : s < 8) : Calls Tryd.prog 43 #[.int .i64 (s : Int), fsV g] w (VE w (.agg #[.int .i64 ((12 + s : Nat) : Int), fsV g])) := by
 have HZ := hid laySize
 have e1 : IntKind.i64.wrap (12 + (s : Int)) = ((12 + s : Nat) : Int) := by rw [w64 (by omega) (by omega)]; omega
 generalize ((12 + s : Nat) : Int) = a at *
 unfold fsV
 go_enter Tryd.func43, Tryd.ntmps43
 go_wp2_with (refine wpl_store_st rfl (.tmp 4) (.tmp 8) rfl (n := 2) HZ.out w.heap.size #[.int .i64 0, .nilFunc] #[.int .i64 a, fsV g] rfl rfl (Row.new _ _ _) ?_ (hid rfl) (hid rfl) (hid (by simp [Value.oneCell', fsV])); intro w7 HR7 HB7)
 exact bodyPost_ret (v := .agg #[.int .i64 a, fsV g]) (results_cell_row rfl _ _ w.heap.size 87 #[.int .i64 a, fsV g] (0, 0) _ rfl HR7.arr Tryd.underlying87 rfl HZ.out) rfl ⟨rfl, ((Below.refl w.heap.size w).alloc (Nat.le_refl _) _).trans (below_grown HB7 (Nat.le_refl _) (by simp))⟩
theorem head_v (s : Nat) (w : World) (hs : s < 8) : Calls Tryd.prog 43 #[.int .i64 (s : Int), fvV] w (VE w (.agg #[.int .i64 ((12 + s : Nat) : Int), fvV])) := by
 have HZ := hid laySize
 have e1 : IntKind.i64.wrap (12 + (s : Int)) = ((12 + s : Nat) : Int) := by rw [w64 (by omega) (by omega)]; omega
 generalize ((12 + s : Nat) : Int) = a at *
 unfold fvV
 go_enter Tryd.func43, Tryd.ntmps43
 go_wp2_with (refine wpl_store_st rfl (.tmp 4) (.tmp 8) rfl (n := 2) HZ.out w.heap.size #[.int .i64 0, .nilFunc] #[.int .i64 a, fvV] rfl rfl (Row.new _ _ _) ?_ (hid rfl) (hid rfl) (hid (by simp [Value.oneCell', fvV])); intro w7 HR7 HB7)
 exact bodyPost_ret (v := .agg #[.int .i64 a, fvV]) (results_cell_row rfl _ _ w.heap.size 87 #[.int .i64 a, fvV] (0, 0) _ rfl HR7.arr Tryd.underlying87 rfl HZ.out) rfl ⟨rfl, ((Below.refl w.heap.size w).alloc (Nat.le_refl _) _).trans (below_grown HB7 (Nat.le_refl _) (by simp))⟩
/-! ### what the closures make -/
/-- a text and a number, new memory -/
def SN13 (w : World) (l : List UInt8) (x : Int) (e : Ending) (w' : World) : Prop := e = .returned (.tuple #[.string ⟨l.toArray⟩, .int .i64 x]) ∧ Below w.heap.size w w'
theorem fv_calls (old : ByteArray) (ho : old.size ≤ 1125899906842624) (w : World) : Calls Tryd.prog 44 #[.string old] w (SN13 w (voidS (sb old)) 0) := by
 have HV : Hid (Calls Tryd.prog 48 #[.string old] w fun e w' => e = .returned (.string ⟨(voidS (sb old)).toArray⟩) ∧ Below w.heap.size w w') := hid (svoid_any old ho w)
 go_enter Tryd.func44, Tryd.ntmps44
 go_wp2_with (go_at_call 48; refine HV.out.mono ?_; rintro e w1 ⟨rfl, hb1⟩)
 go_ret2
 exact ⟨rfl, hb1⟩
theorem fe_calls (e : En) (g : Nat) (old : ByteArray) (ho : old.size ≤ 1125899906842624) (w : World) (hr : Row w g 28 e.cells.toList) (hf : Fd w) :
  Calls Tryd.prog 76 #[.string old, .pointer (some ⟨g, 0, none⟩)] w (SN13 w (prepS (sb old) e).1 (prepS (sb old) e).2) := by
 have HZ := hid esize
 have HP : Hid (Calls Tryd.prog 77 #[.string old, .agg e.cells] w fun x w' => x = .returned (.tuple #[.string ⟨(prepS (sb old) e).1.toArray⟩, .int .i64 (prepS (sb old) e).2]) ∧ Below w.heap.size w w') := hid (sprep_any old e ho w hf)
 generalize prepS (sb old) e = r at *
 obtain ⟨l, x⟩ := r
 have HSZ : Hid (e.cells.size = 9) := hid rfl
 generalize e.cells = C at *
 have HR := hid hr
 clear hr hf
 go_enter Tryd.func76, Tryd.ntmps76
 go_wp2_with (first
  | (refine wpList_load_row rfl 28 (.tmp 1) rfl g rfl 28 C (0, 0) _ HR.out.arr Tryd.underlying28 rfl (by rw [HSZ.out]; exact HZ.out) ?_)
  | (go_at_call 77; refine HP.out.mono ?_; rintro e w1 ⟨rfl, hb1⟩))
 go_ret2
 exact ⟨rfl, hb1⟩
theorem fs_calls (s : St) (hs : s.fits) (g : Nat) (old : ByteArray) (ho : old.size ≤ 1125899906842624) (w : World) (hr : Row w g 42 s.cells.toList) :
  Calls Tryd.prog 78 #[.string old, .pointer (some ⟨g, 0, none⟩)] w (SN13 w (hdrS (sb old) s).1 (hdrS (sb old) s).2) := by
 have HZ := hid stsize
 have HP : Hid (Calls Tryd.prog 79 #[.string old, .agg s.cells] w fun x w' => x = .returned (.tuple #[.string ⟨(hdrS (sb old) s).1.toArray⟩, .int .i64 (hdrS (sb old) s).2]) ∧ Below w.heap.size w w') := hid (shdr_any old s hs ho w)
 generalize hdrS (sb old) s = r at *
 obtain ⟨l, x⟩ := r
 have HSZ : Hid (s.cells.size = 5) := hid rfl
 generalize s.cells = C at *
 have HR := hid hr
 clear hr
 go_enter Tryd.func78, Tryd.ntmps78
 go_wp2_with (first
  | (refine wpList_load_row rfl 42 (.tmp 1) rfl g rfl 42 C (0, 0) _ HR.out.arr Tryd.underlying42 rfl (by rw [HSZ.out]; exact HZ.out) ?_)
  | (go_at_call 79; refine HP.out.mono ?_; rintro e w1 ⟨rfl, hb1⟩))
 go_ret2
 exact ⟨rfl, hb1⟩
/-- a layer: what is laid, the closure that makes it -/
inductive Ly where
 | v (i : Nat)
 | e (y : En) (g : Nat)
 | s (y : St) (g : Nat)
noncomputable def Ly.lay : Ly → Lay
 | .v i => lV i
 | .e y _ => lE y
 | .s y _ => lS y
def Ly.fv : Ly → Value
 | .v _ => fvV
 | .e _ g => feV g
 | .s _ g => fsV g
noncomputable def Ly.cells (x : Ly) : List Value := [.int .i64 (x.lay.1 : Int), x.fv]
/-- what a closure has lies there -/
def Ly.At (w : World) (G : List Nat) : Ly → Prop
 | .v _ => True
 | .e y g => g ∈ G ∧ Row w g 28 y.cells.toList ∧ y.fits ∧ Rt y
 | .s y g => g ∈ G ∧ Row w g 42 y.cells.toList ∧ y.fits ∧ SRt y
theorem Ly.At.ek {w w' : World} {G : List Nat} {x : Ly} (h : x.At w G) (k : Ek w w' G) : x.At w' G := by
 cases x with
 | v i => trivial
 | e y g => exact ⟨h.1, k.row h.2.1 h.1, h.2.2⟩
 | s y g => exact ⟨h.1, k.row h.2.1 h.1, h.2.2⟩
theorem Ly.At.sub {w : World} {G G' : List Nat} {x : Ly} (h : x.At w G) (k : ∀ g ∈ G, g ∈ G') : x.At w G' := by
 cases x with
 | v i => trivial
 | e y g => exact ⟨k _ h.1, h.2⟩
 | s y g => exact ⟨k _ h.1, h.2⟩
/-- the layers lie in a row -/
def LyAt (w : World) (G : List Nat) (A : Option Addr) (L : List Ly) : Prop :=
 (∀ x ∈ L, x.At w G) ∧ (L ≠ [] → ∃ g o, A = some ⟨g, o, none⟩ ∧ g ∈ G ∧ ∀ k j v, (h : k < L.length) → L[k].cells[j]? = some v → w.cell? ⟨g, o + k * 2 + j, none⟩ = some v)
theorem LyAt.ek {w w' : World} {G : List Nat} {A : Option Addr} {L : List Ly} (h : LyAt w G A L) (k : Ek w w' G) : LyAt w' G A L := by
 refine ⟨fun x hx => (h.1 x hx).ek k, fun hne => ?_⟩
 obtain ⟨g, o, e, hg, hc⟩ := h.2 hne
 exact ⟨g, o, e, hg, fun i j v hi hv => (World.cell?_of_block (w := w) (a := ⟨g, o + i * 2 + j, none⟩) (k g hg)).trans (hc i j v hi hv)⟩
end Go.Proofs.YtafbeepacncooaaDoor
