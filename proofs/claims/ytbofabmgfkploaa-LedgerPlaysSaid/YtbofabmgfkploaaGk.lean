/-
  A ledger in memory: its two slices' cells, its accounts' cells, its transfers' cells; what a call leaves alone.
-/
import Derived.Test.YtbofabmgfkploaaRef3
import Derived.Test.YtbofabmgfkploaaLg
import Derived.Deep.AppendLies
namespace Go.Proofs.Ytbofabmgfkploaa
open Go.RowKit
set_option maxRecDepth 10000

/-- of the blocks that were there only those in fp may have turned -/
structure Fr (w w' : World) (fp : List Nat) : Prop where
  os : w'.os = w.os
  tape : w'.tape = w.tape
  output : w'.output = w.output
  size : w.heap.size ≤ w'.heap.size
  block : ∀ k, k < w.heap.size → k ∉ fp → w'.heap[k]? = w.heap[k]?

section
variable {w w' w'' : World} {fp fq : List Nat}
theorem Fr.refl (w : World) (fp : List Nat) : Fr w w fp := ⟨rfl, rfl, rfl, Nat.le_refl _, fun _ _ _ => rfl⟩
theorem Fr.trans (h : Fr w w' fp) (k : Fr w' w'' fq) (hq : ∀ b, b ∈ fq → b < w.heap.size → b ∈ fp) : Fr w w'' fp :=
  ⟨k.os.trans h.os, k.tape.trans h.tape, k.output.trans h.output, Nat.le_trans h.size k.size, fun b hb hn =>
    (k.block b (Nat.lt_of_lt_of_le hb h.size) (fun hm => hn (hq b hm hb))).trans (h.block b hb hn)⟩
theorem Fr.mono (h : Fr w w' fp) (hq : ∀ b, b ∈ fp → b ∈ fq) : Fr w w' fq := ⟨h.os, h.tape, h.output, h.size, fun b hb hn => h.block b hb (fun hm => hn (hq b hm))⟩
theorem Fr.drew (h : Fr w w' fp) : Fr w w'.drew fp := ⟨h.os, h.tape, h.output, h.size, h.block⟩
theorem Fr.alloc (h : Fr w w' fp) (o : Obj) : Fr w (w'.alloc o) fp :=
  h.trans (fq := []) ⟨rfl, rfl, rfl, by simp, fun k hk _ => Below.heap_alloc _ _ _ hk⟩ (by simp)
theorem Fr.setCell (h : Fr w w' fp) {p : Addr} (hp : p.block ∈ fp ∨ w.heap.size ≤ p.block) (u : Value) : Fr w (w'.setCell p u) fp :=
  h.trans (fq := [p.block]) ⟨rfl, rfl, rfl, by simp [World.setCell], fun k _ hk => Below.heap_setCell _ _ _ _ (by simpa using hk)⟩ (by simp; intro hb; rcases hp with hp | hp <;> first | exact hp | omega)
theorem Fr.grown {row : Option Nat} (h : Fr w w' fp) (hg : w'.grownBy w'' row) (hr : ∀ k, row = some k → k ∈ fp ∨ w.heap.size ≤ k) : Fr w w'' fp :=
  h.trans (fq := row.toList) ⟨hg.os, hg.tape, hg.output, hg.size, fun k hk hn => hg.block k hk (fun e => hn (by simp [← e]))⟩ (by
    intro b hb hlt
    simp at hb
    rcases hr b hb with h | h
    · exact h
    · omega)
theorem Fr.below {B : Nat} (h : Fr w w' fp) (hB : ∀ b ∈ fp, B ≤ b) (hs : B ≤ w.heap.size) : Below B w w' :=
  ⟨h.os, h.tape, h.output, h.size, fun k hk => h.block k (by omega) (fun hm => by have := hB k hm; omega)⟩
theorem Fr.row (h : Fr w w' fp) {g : Nat} {e : TypeId} {cs : List Value} (hr : Row w g e cs) (hg : g ∉ fp) : Row w' g e cs := (h.block g hr.lt hg).trans hr
theorem Fr.own (h : Fr w w' fp) {B : Nat} {e : TypeId} {s : Nat} {v : Value} {n : Nat} {xs : List Value} (ho : w.ownsRow B e s v n xs) (hg : ∀ g, v.ownBlock = some g → g ∉ fp) : w'.ownsRow B e s v n xs := by
  refine ⟨ho.1, ?_⟩
  rcases ho.2 with hn | ⟨g, cap, cur, rfl, hb, hgg, rest⟩
  · exact .inl hn
  · refine .inr ⟨g, cap, cur, rfl, hb, ?_, rest⟩
    rw [h.block g (Array.getElem?_eq_some_iff.1 hgg).1 (hg g rfl)]
    exact hgg
theorem Fr.rd (h : Fr w w' fp) {B : Nat} {A : Option Addr} {xs : List Value} (hr : Rd w B A xs) (hB : B ≤ w.heap.size) (hf : ∀ b ∈ fp, B ≤ b) : Rd w' B A xs := fun hn => by
  obtain ⟨g, o, e, hg, hc⟩ := hr hn
  exact ⟨g, o, e, hg, fun j u hu => (World.cell?_of_block (w := w) (a := ⟨g, o + j, none⟩) (h.block g (by omega) (fun hm => by have := hf g hm; omega))).trans (hc j u hu)⟩
/-- what reads in blocks that have not turned -/
theorem Fr.rd' (h : Fr w w' fp) {g o B : Nat} {xs : List Value} (hr : Rd w B (some ⟨g, o, none⟩) xs) (hg : g ∉ fp) (hlt : B ≤ w.heap.size := by exact Nat.le_refl _) : Rd w' B (some ⟨g, o, none⟩) xs := fun hn => by
  obtain ⟨g0, o0, e, hgb, hc⟩ := hr hn
  cases e
  exact ⟨g, o, rfl, hgb, fun j u hu => (World.cell?_of_block (w := w) (a := ⟨g, o + j, none⟩) (h.block g (by omega) hg)).trans (hc j u hu)⟩
end

theorem Row.at_ {w : World} {g : Nat} {e : TypeId} {cs : List Value} (h : Row w g e cs) (i : Nat) (u : Value) (hu : cs[i]? = some u) : w.cell? ⟨g, i, none⟩ = some u := (h.cell i).trans hu
theorem Fr.of_below {w w' : World} (h : Below w.heap.size w w') : Fr w w' [] := ⟨h.os, h.tape, h.output, h.size, fun k hk _ => h.block k hk⟩
theorem Fr.all {w w' : World} (h : Fr w w' []) : Below w.heap.size w w' := h.below (by simp) (Nat.le_refl _)

/-- the ledger S lies at p, its type is X; its accounts are owned by va, its transfers by vt -/
structure HasG (w : World) (X : TypeId) (p : Nat) (va vt : Value) (S : Lg) : Prop where
  box : Row w p X [va, vt]
  accs : w.ownsRow 0 45 4 va S.A.length (rows Ac.cells S.A)
  trs : w.ownsRow 0 43 4 vt S.T.length (rows Tr.cells S.T)
  wf : S.WF
  ty : X ≠ 45 ∧ X ≠ 43
/-- the blocks that it has -/
def fpG (p : Nat) (va vt : Value) : List Nat := p :: (va.ownBlock.toList ++ vt.ownBlock.toList)
theorem fpG_mem {p b : Nat} {va vt : Value} : b ∈ fpG p va vt ↔ b = p ∨ va.ownBlock = some b ∨ vt.ownBlock = some b := by simp [fpG]
theorem own_type {w : World} {B m n g : Nat} {e : TypeId} {v : Value} {xs : List Value} (h : w.ownsRow B e m v n xs) (hg : v.ownBlock = some g) : ∃ cur, w.heap[g]? = some (.cells cur e (0, 0)) := by
  rcases h.2 with ⟨rfl, _⟩ | ⟨g', cap, cur, rfl, _, hh, _⟩
  · cases hg
  · cases hg
    exact ⟨cur, hh⟩
theorem own_zero {w : World} {B m n : Nat} {e : TypeId} {v : Value} {xs : List Value} (h : w.ownsRow B e m v n xs) (B' : Nat) (hB : ∀ g, v.ownBlock = some g → B' ≤ g) : w.ownsRow B' e m v n xs := by
  refine ⟨h.1, ?_⟩
  rcases h.2 with h2 | ⟨g, cap, cur, rfl, _, rest⟩
  · exact .inl h2
  · exact .inr ⟨g, cap, cur, rfl, hB g rfl, rest⟩

section
variable {w w' : World} {X p : Nat} {va vt : Value} {S : Lg} {fp : List Nat}
theorem HasG.n1 (h : HasG w X p va vt S) : va.ownBlock ≠ some p := fun e => by
  obtain ⟨cur, hh⟩ := own_type h.accs e
  have := h.box
  unfold Row at this
  rw [hh] at this
  simp only [Option.some.injEq, Obj.cells.injEq] at this
  exact h.ty.1 this.2.1.symm
theorem HasG.n2 (h : HasG w X p va vt S) : vt.ownBlock ≠ some p := fun e => by
  obtain ⟨cur, hh⟩ := own_type h.trs e
  have := h.box
  unfold Row at this
  rw [hh] at this
  simp only [Option.some.injEq, Obj.cells.injEq] at this
  exact h.ty.2 this.2.1.symm
theorem HasG.n3 (h : HasG w X p va vt S) (g : Nat) (ha : va.ownBlock = some g) : vt.ownBlock ≠ some g := fun e => by
  obtain ⟨cur, hh⟩ := own_type h.accs ha
  obtain ⟨cur', hh'⟩ := own_type h.trs e
  rw [hh] at hh'
  simp only [Option.some.injEq, Obj.cells.injEq] at hh'
  exact absurd hh'.2.1 (by decide)
theorem HasG.fr (h : HasG w X p va vt S) (hf : Fr w w' fp) (hd : ∀ b ∈ fpG p va vt, b ∉ fp) : HasG w' X p va vt S :=
  ⟨hf.row h.box (hd p (by simp [fpG])), hf.own h.accs (fun g hg => hd g (by simp [fpG, hg])), hf.own h.trs (fun g hg => hd g (by simp [fpG, hg])), h.wf, h.ty⟩
theorem HasG.below (h : HasG w X p va vt S) (hb : Below w.heap.size w w') : HasG w' X p va vt S := h.fr (Fr.of_below hb) (by simp)
theorem HasG.lt (h : HasG w X p va vt S) : ∀ b ∈ fpG p va vt, b < w.heap.size := by
  intro b hb
  rcases fpG_mem.1 hb with rfl | hb | hb
  · exact h.box.lt
  · exact (h.accs.lt b hb).2
  · exact (h.trs.lt b hb).2
theorem HasG.c0 (h : HasG w X p va vt S) : w.cell? ⟨p, 0, none⟩ = some va := h.box.at_ 0 _ rfl
theorem HasG.c1 (h : HasG w X p va vt S) : w.cell? ⟨p, 1, none⟩ = some vt := h.box.at_ 1 _ rfl
theorem HasG.f (h : HasG w X p va vt S) (i : Nat) : w.frozen? ⟨p, i, none⟩ = false := h.box.frozen i
theorem HasG.drew (h : HasG w X p va vt S) : HasG w.drew X p va vt S := ⟨h.box, h.accs, h.trs, h.wf, h.ty⟩
theorem HasG.va_shape (h : HasG w X p va vt S) : ∃ A c, va = .slice A S.A.length c ∧ S.A.length ≤ c ∧ Rd w w.heap.size A (rows Ac.cells S.A) := own_rd h.accs
theorem HasG.vt_shape (h : HasG w X p va vt S) : ∃ A c, vt = .slice A S.T.length c ∧ S.T.length ≤ c ∧ Rd w w.heap.size A (rows Tr.cells S.T) := own_rd h.trs
/-- where its accounts lie, if it has some -/
theorem own_some {w : World} {B m n : Nat} {e : TypeId} {v : Value} {xs : List Value} (h : w.ownsRow B e m v n xs) (hn : 0 < n) : ∃ g c, v = .slice (some ⟨g, 0, none⟩) n c ∧ n ≤ c ∧ v.ownBlock = some g := by
  rcases h.2 with ⟨rfl, h0⟩ | ⟨g, cap, cur, rfl, _, _, hc, _⟩
  · omega
  · exact ⟨g, cap, rfl, hc, rfl⟩
end

/-- the ledger S lies at p, in the blocks fp -/
def Gk (X p : Nat) (S : Lg) (fp : List Nat) (w : World) : Prop := ∃ va vt, fp = fpG p va vt ∧ HasG w X p va vt S
/-- since w, where it lay in fp, the ledger is S now -/
def Gw (X p : Nat) (w : World) (fp : List Nat) (S : Lg) (wr : World) : Prop := ∃ fq, Gk X p S fq wr ∧ Fr w wr fp ∧ ∀ g ∈ fq, g ∈ fp ∨ w.heap.size ≤ g
section
variable {w w' w'' : World} {X p : Nat} {S S' : Lg} {fp fq : List Nat}
theorem Gk.fr (h : Gk X p S fp w) (hf : Fr w w' fq) (hd : ∀ b ∈ fp, b ∉ fq) : Gk X p S fp w' := by
  obtain ⟨va, vt, rfl, h⟩ := h
  exact ⟨va, vt, rfl, h.fr hf hd⟩
theorem Gk.below (h : Gk X p S fp w) (hb : Below w.heap.size w w') : Gk X p S fp w' := h.fr (Fr.of_below hb) (by simp)
theorem Gk.lt (h : Gk X p S fp w) : ∀ b ∈ fp, b < w.heap.size := by
  obtain ⟨va, vt, rfl, h⟩ := h
  exact h.lt
theorem Gk.wf (h : Gk X p S fp w) : S.WF := by
  obtain ⟨va, vt, rfl, h⟩ := h
  exact h.wf
theorem Gw.start (h : Gk X p S fp w) : Gw X p w fp S w := ⟨fp, h, Fr.refl _ _, fun _ hg => .inl hg⟩
theorem Gw.frame (h : Gw X p w fp S w') : Fr w w' fp := by
  obtain ⟨_, _, h, _⟩ := h
  exact h
theorem Gw.wf (h : Gw X p w fp S w') : S.WF := by
  obtain ⟨_, h, _⟩ := h
  exact h.wf
theorem Gw.size (h : Gw X p w fp S w') : w.heap.size ≤ w'.heap.size := h.frame.size
theorem Gw.kept (h : Gw X p w fp S w') (hf : Fr w' w'' []) : Gw X p w fp S w'' := by
  obtain ⟨fq, h1, h2, h3⟩ := h
  exact ⟨fq, h1.fr hf (by simp), h2.trans hf (by simp), h3⟩
theorem Gw.below (h : Gw X p w fp S w') (hb : Below w'.heap.size w' w'') : Gw X p w fp S w'' := h.kept (Fr.of_below hb)
theorem Gw.alloc (h : Gw X p w fp S w') (o : Obj) : Gw X p w fp S (w'.alloc o) := h.kept ((Fr.refl _ _).alloc o)
theorem Gw.drew (h : Gw X p w fp S w') : Gw X p w fp S w'.drew := h.kept ⟨rfl, rfl, rfl, Nat.le_refl _, fun _ _ _ => rfl⟩
/-- one thing behind another -/
theorem Gw.step (h : Gw X p w fp S w') (hn : ∀ fq, Gk X p S fq w' → Gw X p w' fq S' w'') : Gw X p w fp S' w'' := by
  obtain ⟨fq, h1, h2, h3⟩ := h
  obtain ⟨fr, k1, k2, k3⟩ := hn fq h1
  have hs := h2.size
  refine ⟨fr, k1, h2.trans k2 (fun b hb hlt => ?_), fun g hg => ?_⟩
  · rcases h3 b hb with h | h
    · exact h
    · omega
  · rcases k3 g hg with h | h
    · exact h3 g h
    · right; omega
/-- a call on what is there now -/
theorem Gw.call {P : Program} {f : FuncId} {args : Array Value} {v : Ending} (h : Gw X p w fp S w') (H : ∀ fq, Gk X p S fq w' → Calls P f args w' fun e w'' => e = v ∧ Gw X p w' fq S' w'') : Calls P f args w' fun e w'' => e = v ∧ Gw X p w fp S' w'' := by
  obtain ⟨fq, h1, h2, h3⟩ := h
  refine (H fq h1).mono fun e w'' hh => ⟨hh.1, ?_⟩
  obtain ⟨fr, k1, k2, k3⟩ := hh.2
  have hs := h2.size
  refine ⟨fr, k1, h2.trans k2 (fun b hb hlt => ?_), fun g hg => ?_⟩
  · rcases h3 b hb with h | h
    · exact h
    · omega
  · rcases k3 g hg with h | h
    · exact h3 g h
    · right; omega
/-- what reads in blocks that it has not -/
theorem Gw.rd (h : Gw X p w fp S w') {g o B : Nat} {xs : List Value} (hr : Rd w B (some ⟨g, o, none⟩) xs) (hg : g ∉ fp) (hB : B ≤ w.heap.size) : Rd w' B (some ⟨g, o, none⟩) xs := fun hn => by
  obtain ⟨g0, o0, e, hgb, hc⟩ := hr hn
  cases e
  exact ⟨g, o, rfl, hgb, fun j u hu => (World.cell?_of_block (w := w) (a := ⟨g, o + j, none⟩) (h.frame.block g (by omega) hg)).trans (hc j u hu)⟩
end

/-! ### one account is turned, one more is there -/
theorem own_set {w : World} {B m n g : Nat} {e : TypeId} {v : Value} {xs : List Value} (h : w.ownsRow B e m v n xs) (hg : v.ownBlock = some g) (j : Nat) (u : Value) (hj : j < xs.length) : (w.setCell ⟨g, j, none⟩ u).ownsRow B e m v n (xs.set j u) := by
  refine ⟨by rw [List.length_set]; exact h.1, ?_⟩
  rcases h.2 with ⟨rfl, _⟩ | ⟨g', cap, cur, hv, hb, hh, h1, h2, h3, h4⟩
  · cases hg
  · subst hv
    obtain rfl : g' = g := by simpa [Value.ownBlock] using hg
    have hr : Row w g' e cur.toList := by unfold Row; simpa using hh
    have hr2 := hr.set_ j u
    have hl := h.1
    refine .inr ⟨g', cap, (cur.toList.set j u).toArray, rfl, hb, hr2, h1, h2, by simp [h3], ?_⟩
    have hj2 : j < n * m := by omega
    rw [← h4]
    rw [List.take_set]
theorem rows_set {α : Type} {C : α → List Value} {n : Nat} (hC : ∀ x, (C x).length = n) (l : List α) (i j : Nat) (u : Value) (y : α) (hi : i < l.length) (hj : j < n) (hy : (C l[i]).set j u = C y) : (rows C l).set (i * n + j) u = rows C (l.set i y) := by
  unfold rows
  rw [flat_set n (l.map C) i j u (by simpa using hi) (by intro r hr; obtain ⟨x, _, rfl⟩ := List.mem_map.1 hr; exact hC x) hj]
  congr 1
  rw [List.getElem_map, hy, List.map_set]
section
variable {w : World} {X p : Nat} {va vt : Value} {S : Lg}
theorem HasG.turn (h : HasG w X p va vt S) {g : Nat} (hg : va.ownBlock = some g) (i j : Nat) (u : Value) (y : Ac) (hi : i < S.A.length) (hj : j < 4) (hy : (Ac.cells S.A[i]).set j u = Ac.cells y) (hf : y.flat) :
    HasG (w.setCell ⟨g, i * 4 + j, none⟩ u) X p va vt ⟨S.A.set i y, S.T⟩ := by
  have hl := rows_len (C := Ac.cells) Ac.len S.A
  have hne : g ≠ p := fun e => h.n1 (by rw [hg, e])
  have h1 := own_set h.accs hg (i * 4 + j) u (by omega)
  rw [rows_set Ac.len S.A i j u y hi hj hy] at h1
  refine ⟨h.box.far (by exact Ne.symm hne) u, ?_, ?_, ⟨by simpa using h.wf.la, h.wf.lt, ?_, h.wf.ot⟩, h.ty⟩
  · simpa using h1
  · exact ((Fr.refl w [g]).setCell (p := ⟨g, i * 4 + j, none⟩) (.inl (by simp)) u).own h.trs (fun g' hg' => by
      have := h.n3 g hg
      simp
      rintro rfl
      exact this hg')
  · intro x hx
    rcases List.mem_or_eq_of_mem_set hx with hx | rfl
    · exact h.wf.oa x hx
    · exact hf
theorem HasG.cellA (h : HasG w X p va vt S) {g : Nat} (hg : va.ownBlock = some g) (i j : Nat) (hi : i < S.A.length) (hj : j < 4) : w.cell? ⟨g, i * 4 + j, none⟩ = (Ac.cells S.A[i])[j]? := by
  have hl := rows_len (C := Ac.cells) Ac.len S.A
  have h1 := rows_get Ac.len S.A i j hi hj
  have h2 : (Ac.cells S.A[i])[j]? = some ((Ac.cells S.A[i])[j]'(by rw [Ac.len]; exact hj)) := List.getElem?_eq_getElem _
  rw [h2]
  have := h.accs.cells hg (i * 4 + j) _ (h1.trans h2)
  rw [add_lit, Nat.zero_add] at this
  exact this
theorem HasG.frozenA (h : HasG w X p va vt S) {g : Nat} (hg : va.ownBlock = some g) (i : Nat) : w.frozen? ⟨g, i, none⟩ = false := by
  obtain ⟨cur, hh⟩ := own_type h.accs hg
  exact frozen_of_row w g i cur _ hh
theorem Fr.turn {g : Nat} (w : World) (j : Nat) (u : Value) (hg : va.ownBlock = some g) : Fr w (w.setCell ⟨g, j, none⟩ u) (fpG p va vt) := (Fr.refl w _).setCell (p := ⟨g, j, none⟩) (.inl (by simp [fpG, hg])) u
/-- one more account -/
theorem HasG.moreA (h : HasG w X p va vt S) {w1 : World} {va' : Value} {x : Ac} (hf : Fr w w1 va.ownBlock.toList) (ho : w1.ownsRow 0 45 4 va' (S.A.length + 1) (rows Ac.cells S.A ++ x.cells)) (hat : ∀ g, va'.ownBlock = some g → va.ownBlock = some g ∨ w.heap.size ≤ g)
    (hS : S.A.length + 1 ≤ 8) (hx : x.flat) :
    HasG (w1.setCell ⟨p, 0, none⟩ va') X p va' vt ⟨S.A ++ [x], S.T⟩ ∧ Fr w (w1.setCell ⟨p, 0, none⟩ va') (fpG p va vt) ∧ ∀ b ∈ fpG p va' vt, b ∈ fpG p va vt ∨ w.heap.size ≤ b := by
  have hn1 := h.n1
  have hb1 : Row w1 p X [va, vt] := hf.row h.box (by simpa using hn1)
  have ht1 := hf.own h.trs (fun g hg => by
    simp
    intro e
    exact h.n3 g e hg)
  have hp' : va'.ownBlock ≠ some p := fun e => by
    rcases hat p e with h1 | h1
    · exact hn1 h1
    · have := h.box.lt; omega
  have hf2 : Fr w1 (w1.setCell ⟨p, 0, none⟩ va') [p] := (Fr.refl w1 [p]).setCell (p := ⟨p, 0, none⟩) (.inl (by simp)) va'
  refine ⟨⟨hb1.set_ 0 va', ?_, ?_, ⟨by simpa using hS, h.wf.lt, ?_, h.wf.ot⟩, h.ty⟩, ?_, ?_⟩
  · have := hf2.own ho (fun g hg => by simp; rintro rfl; exact hp' hg)
    rw [List.length_append, rows_app]
    simpa [rows] using this
  · exact hf2.own ht1 (fun g hg => by simp; rintro rfl; exact h.n2 hg)
  · intro y hy
    rcases List.mem_append.1 hy with hy | hy
    · exact h.wf.oa y hy
    · rw [List.mem_singleton.1 hy]; exact hx
  · exact (hf.mono (fun b hb => by simp at hb; simp [fpG, hb])).trans hf2 (by intro b hb _; simp at hb; simp [fpG, hb])
  · intro b hb
    rcases fpG_mem.1 hb with rfl | hb | hb
    · exact .inl (by simp [fpG])
    · rcases hat b hb with h1 | h1
      · exact .inl (by simp [fpG, h1])
      · exact .inr h1
    · exact .inl (by simp [fpG, hb])
/-- one more transfer -/
theorem HasG.moreT (h : HasG w X p va vt S) {w1 : World} {vt' : Value} {x : Tr} (hf : Fr w w1 vt.ownBlock.toList) (ho : w1.ownsRow 0 43 4 vt' (S.T.length + 1) (rows Tr.cells S.T ++ x.cells)) (hat : ∀ g, vt'.ownBlock = some g → vt.ownBlock = some g ∨ w.heap.size ≤ g)
    (hS : S.T.length + 1 ≤ 16) (hx : x.ok) :
    HasG (w1.setCell ⟨p, 1, none⟩ vt') X p va vt' ⟨S.A, S.T ++ [x]⟩ ∧ Fr w (w1.setCell ⟨p, 1, none⟩ vt') (fpG p va vt) ∧ ∀ b ∈ fpG p va vt', b ∈ fpG p va vt ∨ w.heap.size ≤ b := by
  have hn1 := h.n2
  have hb1 : Row w1 p X [va, vt] := hf.row h.box (by simpa using hn1)
  have ht1 := hf.own h.accs (fun g hg => by
    simp
    intro e
    exact h.n3 g hg e)
  have hp' : vt'.ownBlock ≠ some p := fun e => by
    rcases hat p e with h1 | h1
    · exact hn1 h1
    · have := h.box.lt; omega
  have hf2 : Fr w1 (w1.setCell ⟨p, 1, none⟩ vt') [p] := (Fr.refl w1 [p]).setCell (p := ⟨p, 1, none⟩) (.inl (by simp)) vt'
  refine ⟨⟨hb1.set_ 1 vt', ?_, ?_, ⟨h.wf.la, by simpa using hS, h.wf.oa, ?_⟩, h.ty⟩, ?_, ?_⟩
  · exact hf2.own ht1 (fun g hg => by simp; rintro rfl; exact h.n1 hg)
  · have := hf2.own ho (fun g hg => by simp; rintro rfl; exact hp' hg)
    rw [List.length_append, rows_app]
    simpa [rows] using this
  · intro y hy
    rcases List.mem_append.1 hy with hy | hy
    · exact h.wf.ot y hy
    · rw [List.mem_singleton.1 hy]; exact hx
  · exact (hf.mono (fun b hb => by simp at hb; simp [fpG, hb])).trans hf2 (by intro b hb _; simp at hb; simp [fpG, hb])
  · intro b hb
    rcases fpG_mem.1 hb with rfl | hb | hb
    · exact .inl (by simp [fpG])
    · exact .inl (by simp [fpG, hb])
    · rcases hat b hb with h1 | h1
      · exact .inl (by simp [fpG, h1])
      · exact .inr h1
end
end Go.Proofs.Ytbofabmgfkploaa
