/-
  A table in memory: its slice's cell, its sessions' cells; what a call leaves alone; a law's own table, or two.
-/
import Derived.Test.YtgphijkonmdehaaSs
namespace Go.Proofs.Ytgphijkonmdehaa
open Go.RowKit
set_option maxRecDepth 10000

/-- of the blocks that were there only those in fp may have turned -/
structure Fr (w w' : World) (fp : List Nat) : Prop where
  os : w'.os = w.os
  tape : w'.tape = w.tape
  output : w'.output = w.output
  size : w.heap.size ≤ w'.heap.size
  block : ∀ k, k < w.heap.size → k ∉ fp → w'.heap[k]? = w.heap[k]?

section
variable {w w' w'' : World} {fp fq : List Nat}
theorem Fr.refl (w : World) (fp : List Nat) : Fr w w fp := ⟨rfl, rfl, rfl, Nat.le_refl _, fun _ _ _ => rfl⟩
theorem Fr.trans (h : Fr w w' fp) (k : Fr w' w'' fq) (hq : ∀ b, b ∈ fq → b < w.heap.size → b ∈ fp) : Fr w w'' fp :=
  ⟨k.os.trans h.os, k.tape.trans h.tape, k.output.trans h.output, Nat.le_trans h.size k.size, fun b hb hn =>
    (k.block b (Nat.lt_of_lt_of_le hb h.size) (fun hm => hn (hq b hm hb))).trans (h.block b hb hn)⟩
theorem Fr.mono (h : Fr w w' fp) (hq : ∀ b, b ∈ fp → b ∈ fq) : Fr w w' fq := ⟨h.os, h.tape, h.output, h.size, fun b hb hn => h.block b hb (fun hm => hn (hq b hm))⟩
theorem Fr.drew (h : Fr w w' fp) : Fr w w'.drew fp := ⟨h.os, h.tape, h.output, h.size, h.block⟩
theorem Fr.alloc (h : Fr w w' fp) (o : Obj) : Fr w (w'.alloc o) fp :=
  h.trans (fq := []) ⟨rfl, rfl, rfl, by simp, fun k hk _ => Below.heap_alloc _ _ _ hk⟩ (by simp)
theorem Fr.setCell (h : Fr w w' fp) {p : Addr} (hp : p.block ∈ fp ∨ w.heap.size ≤ p.block) (u : Value) : Fr w (w'.setCell p u) fp :=
  h.trans (fq := [p.block]) ⟨rfl, rfl, rfl, by simp [World.setCell], fun k _ hk => Below.heap_setCell _ _ _ _ (by simpa using hk)⟩ (by simp; intro hb; rcases hp with hp | hp <;> first | exact hp | omega)
theorem Fr.grown {row : Option Nat} (h : Fr w w' fp) (hg : w'.grownBy w'' row) (hr : ∀ k, row = some k → k ∈ fp ∨ w.heap.size ≤ k) : Fr w w'' fp :=
  h.trans (fq := row.toList) ⟨hg.os, hg.tape, hg.output, hg.size, fun k hk hn => hg.block k hk (fun e => hn (by simp [← e]))⟩ (by
    intro b hb hlt
    simp at hb
    rcases hr b hb with h | h
    · exact h
    · omega)
theorem Fr.below {B : Nat} (h : Fr w w' fp) (hB : ∀ b ∈ fp, B ≤ b) (hs : B ≤ w.heap.size) : Below B w w' :=
  ⟨h.os, h.tape, h.output, h.size, fun k hk => h.block k (by omega) (fun hm => by have := hB k hm; omega)⟩
theorem Fr.row (h : Fr w w' fp) {g : Nat} {e : TypeId} {cs : List Value} (hr : Row w g e cs) (hg : g ∉ fp) : Row w' g e cs := (h.block g hr.lt hg).trans hr
theorem Fr.own (h : Fr w w' fp) {B : Nat} {e : TypeId} {s : Nat} {v : Value} {n : Nat} {xs : List Value} (ho : w.ownsRow B e s v n xs) (hg : ∀ g, v.ownBlock = some g → g ∉ fp) : w'.ownsRow B e s v n xs := by
  refine ⟨ho.1, ?_⟩
  rcases ho.2 with hn | ⟨g, cap, cur, rfl, hb, hgg, rest⟩
  · exact .inl hn
  · refine .inr ⟨g, cap, cur, rfl, hb, ?_, rest⟩
    rw [h.block g (Array.getElem?_eq_some_iff.1 hgg).1 (hg g rfl)]
    exact hgg
theorem Fr.rd (h : Fr w w' fp) {B : Nat} {A : Option Addr} {xs : List Value} (hr : Rd w B A xs) (hB : B ≤ w.heap.size) (hf : ∀ b ∈ fp, B ≤ b) : Rd w' B A xs := fun hn => by
  obtain ⟨g, o, e, hg, hc⟩ := hr hn
  exact ⟨g, o, e, hg, fun j u hu => (World.cell?_of_block (w := w) (a := ⟨g, o + j, none⟩) (h.block g (by omega) (fun hm => by have := hf g hm; omega))).trans (hc j u hu)⟩
/-- what reads in blocks that have not turned -/
theorem Fr.rd' (h : Fr w w' fp) {g o B : Nat} {xs : List Value} (hr : Rd w B (some ⟨g, o, none⟩) xs) (hg : g ∉ fp) (hlt : B ≤ w.heap.size := by exact Nat.le_refl _) : Rd w' B (some ⟨g, o, none⟩) xs := fun hn => by
  obtain ⟨g0, o0, e, hgb, hc⟩ := hr hn
  cases e
  exact ⟨g, o, rfl, hgb, fun j u hu => (World.cell?_of_block (w := w) (a := ⟨g, o + j, none⟩) (h.block g (by omega) hg)).trans (hc j u hu)⟩
end

theorem Row.at_ {w : World} {g : Nat} {e : TypeId} {cs : List Value} (h : Row w g e cs) (i : Nat) (u : Value) (hu : cs[i]? = some u) : w.cell? ⟨g, i, none⟩ = some u := (h.cell i).trans hu
theorem Fr.of_below {w w' : World} (h : Below w.heap.size w w') : Fr w w' [] := ⟨h.os, h.tape, h.output, h.size, fun k hk _ => h.block k hk⟩
theorem Fr.all {w w' : World} (h : Fr w w' []) : Below w.heap.size w w' := h.below (by simp) (Nat.le_refl _)

/-- the table T lies at p, its type is X; its sessions are owned by v -/
structure HasT (w : World) (X : TypeId) (p : Nat) (v : Value) (T : List Ss) : Prop where
  box : Row w p X [v]
  own : w.ownsRow 0 37 5 v T.length (rows Ss.cells T)
  wf : WF T
  ty : X ≠ 37
/-- the blocks that it has -/
def fpT (p : Nat) (v : Value) : List Nat := p :: v.ownBlock.toList
theorem fpT_mem {p b : Nat} {v : Value} : b ∈ fpT p v ↔ b = p ∨ v.ownBlock = some b := by simp [fpT]
theorem own_type {w : World} {B m n g : Nat} {e : TypeId} {v : Value} {xs : List Value} (h : w.ownsRow B e m v n xs) (hg : v.ownBlock = some g) : ∃ cur, w.heap[g]? = some (.cells cur e (0, 0)) := by
  rcases h.2 with ⟨rfl, _⟩ | ⟨g', cap, cur, rfl, _, hh, _⟩
  · cases hg
  · cases hg
    exact ⟨cur, hh⟩
theorem own_zero {w : World} {B m n : Nat} {e : TypeId} {v : Value} {xs : List Value} (h : w.ownsRow B e m v n xs) (B' : Nat) (hB : ∀ g, v.ownBlock = some g → B' ≤ g) : w.ownsRow B' e m v n xs := by
  refine ⟨h.1, ?_⟩
  rcases h.2 with h2 | ⟨g, cap, cur, rfl, _, rest⟩
  · exact .inl h2
  · exact .inr ⟨g, cap, cur, rfl, hB g rfl, rest⟩

section
variable {w w' : World} {X p : Nat} {v : Value} {T : List Ss} {fp : List Nat}
theorem HasT.n1 (h : HasT w X p v T) : v.ownBlock ≠ some p := fun e => by
  obtain ⟨cur, hh⟩ := own_type h.own e
  have := h.box
  unfold Row at this
  rw [hh] at this
  simp only [Option.some.injEq, Obj.cells.injEq] at this
  exact h.ty this.2.1.symm
theorem HasT.fr (h : HasT w X p v T) (hf : Fr w w' fp) (hd : ∀ b ∈ fpT p v, b ∉ fp) : HasT w' X p v T :=
  ⟨hf.row h.box (hd p (by simp [fpT])), hf.own h.own (fun g hg => hd g (by simp [fpT, hg])), h.wf, h.ty⟩
theorem HasT.below (h : HasT w X p v T) (hb : Below w.heap.size w w') : HasT w' X p v T := h.fr (Fr.of_below hb) (by simp)
theorem HasT.lt (h : HasT w X p v T) : ∀ b ∈ fpT p v, b < w.heap.size := by
  intro b hb
  rcases fpT_mem.1 hb with rfl | hb
  · exact h.box.lt
  · exact (h.own.lt b hb).2
theorem HasT.c0 (h : HasT w X p v T) : w.cell? ⟨p, 0, none⟩ = some v := h.box.at_ 0 _ rfl
theorem HasT.f (h : HasT w X p v T) (i : Nat) : w.frozen? ⟨p, i, none⟩ = false := h.box.frozen i
theorem HasT.drew (h : HasT w X p v T) : HasT w.drew X p v T := ⟨h.box, h.own, h.wf, h.ty⟩
theorem HasT.shape (h : HasT w X p v T) : ∃ A c, v = .slice A T.length c ∧ T.length ≤ c ∧ Rd w w.heap.size A (rows Ss.cells T) := own_rd h.own
/-- where its sessions lie, if it has some -/
theorem own_some {w : World} {B m n : Nat} {e : TypeId} {v : Value} {xs : List Value} (h : w.ownsRow B e m v n xs) (hn : 0 < n) : ∃ g c, v = .slice (some ⟨g, 0, none⟩) n c ∧ n ≤ c ∧ v.ownBlock = some g := by
  rcases h.2 with ⟨rfl, h0⟩ | ⟨g, cap, cur, rfl, _, _, hc, _⟩
  · omega
  · exact ⟨g, cap, rfl, hc, rfl⟩
end

/-- the table S lies at p, in the blocks fp -/
def Gk (X p : Nat) (S : List Ss) (fp : List Nat) (w : World) : Prop := ∃ v, fp = fpT p v ∧ HasT w X p v S
/-- since w, where it lay in fp, the table is S now -/
def Gw (X p : Nat) (w : World) (fp : List Nat) (S : List Ss) (wr : World) : Prop := ∃ fq, Gk X p S fq wr ∧ Fr w wr fp ∧ ∀ g ∈ fq, g ∈ fp ∨ w.heap.size ≤ g
section
variable {w w' w'' : World} {X p : Nat} {S S' : List Ss} {fp fq : List Nat}
theorem Gk.fr (h : Gk X p S fp w) (hf : Fr w w' fq) (hd : ∀ b ∈ fp, b ∉ fq) : Gk X p S fp w' := by
  obtain ⟨v, rfl, h⟩ := h
  exact ⟨v, rfl, h.fr hf hd⟩
theorem Gk.below (h : Gk X p S fp w) (hb : Below w.heap.size w w') : Gk X p S fp w' := h.fr (Fr.of_below hb) (by simp)
theorem Gk.lt (h : Gk X p S fp w) : ∀ b ∈ fp, b < w.heap.size := by
  obtain ⟨v, rfl, h⟩ := h
  exact h.lt
theorem Gk.wf (h : Gk X p S fp w) : WF S := by
  obtain ⟨v, rfl, h⟩ := h
  exact h.wf
theorem Gw.start (h : Gk X p S fp w) : Gw X p w fp S w := ⟨fp, h, Fr.refl _ _, fun _ hg => .inl hg⟩
theorem Gw.frame (h : Gw X p w fp S w') : Fr w w' fp := by
  obtain ⟨_, _, h, _⟩ := h
  exact h
theorem Gw.wf (h : Gw X p w fp S w') : WF S := by
  obtain ⟨_, h, _⟩ := h
  exact h.wf
theorem Gw.size (h : Gw X p w fp S w') : w.heap.size ≤ w'.heap.size := h.frame.size
theorem Gw.kept (h : Gw X p w fp S w') (hf : Fr w' w'' []) : Gw X p w fp S w'' := by
  obtain ⟨fq, h1, h2, h3⟩ := h
  exact ⟨fq, h1.fr hf (by simp), h2.trans hf (by simp), h3⟩
theorem Gw.below (h : Gw X p w fp S w') (hb : Below w'.heap.size w' w'') : Gw X p w fp S w'' := h.kept (Fr.of_below hb)
theorem Gw.alloc (h : Gw X p w fp S w') (o : Obj) : Gw X p w fp S (w'.alloc o) := h.kept ((Fr.refl _ _).alloc o)
theorem Gw.drew (h : Gw X p w fp S w') : Gw X p w fp S w'.drew := h.kept ⟨rfl, rfl, rfl, Nat.le_refl _, fun _ _ _ => rfl⟩
/-- one thing behind another -/
theorem Gw.step (h : Gw X p w fp S w') (hn : ∀ fq, Gk X p S fq w' → Gw X p w' fq S' w'') : Gw X p w fp S' w'' := by
  obtain ⟨fq, h1, h2, h3⟩ := h
  obtain ⟨fr, k1, k2, k3⟩ := hn fq h1
  have hs := h2.size
  refine ⟨fr, k1, h2.trans k2 (fun b hb hlt => ?_), fun g hg => ?_⟩
  · rcases h3 b hb with h | h
    · exact h
    · omega
  · rcases k3 g hg with h | h
    · exact h3 g h
    · right; omega
/-- a call on what is there now -/
theorem Gw.call {P : Program} {f : FuncId} {args : Array Value} {v : Ending} (h : Gw X p w fp S w') (H : ∀ fq, Gk X p S fq w' → Calls P f args w' fun e w'' => e = v ∧ Gw X p w' fq S' w'') : Calls P f args w' fun e w'' => e = v ∧ Gw X p w fp S' w'' := by
  obtain ⟨fq, h1, h2, h3⟩ := h
  refine (H fq h1).mono fun e w'' hh => ⟨hh.1, ?_⟩
  obtain ⟨fr, k1, k2, k3⟩ := hh.2
  have hs := h2.size
  refine ⟨fr, k1, h2.trans k2 (fun b hb hlt => ?_), fun g hg => ?_⟩
  · rcases h3 b hb with h | h
    · exact h
    · omega
  · rcases k3 g hg with h | h
    · exact h3 g h
    · right; omega
/-- what reads in blocks that it has not -/
theorem Gw.rd (h : Gw X p w fp S w') {g o B : Nat} {xs : List Value} (hr : Rd w B (some ⟨g, o, none⟩) xs) (hg : g ∉ fp) (hB : B ≤ w.heap.size) : Rd w' B (some ⟨g, o, none⟩) xs := fun hn => by
  obtain ⟨g0, o0, e, hgb, hc⟩ := hr hn
  cases e
  exact ⟨g, o, rfl, hgb, fun j u hu => (World.cell?_of_block (w := w) (a := ⟨g, o + j, none⟩) (h.frame.block g (by omega) hg)).trans (hc j u hu)⟩
end

theorem own_set {w : World} {B m n g : Nat} {e : TypeId} {v : Value} {xs : List Value} (h : w.ownsRow B e m v n xs) (hg : v.ownBlock = some g) (j : Nat) (u : Value) (hj : j < xs.length) : (w.setCell ⟨g, j, none⟩ u).ownsRow B e m v n (xs.set j u) := by
  refine ⟨by rw [List.length_set]; exact h.1, ?_⟩
  rcases h.2 with ⟨rfl, _⟩ | ⟨g', cap, cur, hv, hb, hh, h1, h2, h3, h4⟩
  · cases hg
  · subst hv
    obtain rfl : g' = g := by simpa [Value.ownBlock] using hg
    have hr : Row w g' e cur.toList := by unfold Row; simpa using hh
    have hr2 := hr.set_ j u
    have hl := h.1
    refine .inr ⟨g', cap, (cur.toList.set j u).toArray, rfl, hb, hr2, h1, h2, by simp [h3], ?_⟩
    have hj2 : j < n * m := by omega
    rw [← h4]
    rw [List.take_set]
theorem rows_set {α : Type} {C : α → List Value} {n : Nat} (hC : ∀ x, (C x).length = n) (l : List α) (i j : Nat) (u : Value) (y : α) (hi : i < l.length) (hj : j < n) (hy : (C l[i]).set j u = C y) : (rows C l).set (i * n + j) u = rows C (l.set i y) := by
  unfold rows
  rw [flat_set n (l.map C) i j u (by simpa using hi) (by intro r hr; obtain ⟨x, _, rfl⟩ := List.mem_map.1 hr; exact hC x) hj]
  congr 1
  rw [List.getElem_map, hy, List.map_set]
section
variable {w : World} {X p : Nat} {v : Value} {T : List Ss}
theorem HasT.turn (h : HasT w X p v T) {g : Nat} (hg : v.ownBlock = some g) (i j : Nat) (u : Value) (y : Ss) (hi : i < T.length) (hj : j < 5) (hy : (Ss.cells T[i]).set j u = Ss.cells y) (hf : y.ok) :
    HasT (w.setCell ⟨g, i * 5 + j, none⟩ u) X p v (T.set i y) := by
  have hl := rows_len (C := Ss.cells) Ss.len T
  have hne : g ≠ p := fun e => h.n1 (by rw [hg, e])
  have h1 := own_set h.own hg (i * 5 + j) u (by omega)
  rw [rows_set Ss.len T i j u y hi hj hy] at h1
  exact ⟨h.box.far (by exact Ne.symm hne) u, by simpa using h1, set_wf h.wf i y hf, h.ty⟩
theorem HasT.cell (h : HasT w X p v T) {g : Nat} (hg : v.ownBlock = some g) (i j : Nat) (hi : i < T.length) (hj : j < 5) : w.cell? ⟨g, i * 5 + j, none⟩ = (Ss.cells T[i])[j]? := by
  have hl := rows_len (C := Ss.cells) Ss.len T
  have h1 := rows_get Ss.len T i j hi hj
  have h2 : (Ss.cells T[i])[j]? = some ((Ss.cells T[i])[j]'(by rw [Ss.len]; exact hj)) := List.getElem?_eq_getElem _
  rw [h2]
  have := h.own.cells hg (i * 5 + j) _ (h1.trans h2)
  rw [add_lit, Nat.zero_add] at this
  exact this
theorem HasT.frozen (h : HasT w X p v T) {g : Nat} (hg : v.ownBlock = some g) (i : Nat) : w.frozen? ⟨g, i, none⟩ = false := by
  obtain ⟨cur, hh⟩ := own_type h.own hg
  exact frozen_of_row w g i cur _ hh
theorem HasT.range (h : HasT w X p v T) {g : Nat} (hg : v.ownBlock = some g) (i : Nat) (hi : i < T.length) : w.rangeAt g (i * 5) (Ss.cells T[i]) := fun j u hu => by
  have hj : j < 5 := by
    have := (List.getElem?_eq_some_iff.1 hu).1
    rw [Ss.len] at this
    exact this
  rw [h.cell hg i j hi hj, hu]
theorem Fr.turn {g : Nat} (w : World) (j : Nat) (u : Value) (hg : v.ownBlock = some g) : Fr w (w.setCell ⟨g, j, none⟩ u) (fpT p v) := (Fr.refl w _).setCell (p := ⟨g, j, none⟩) (.inl (by simp [fpT, hg])) u
/-- another list is stored -/
theorem HasT.put (h : HasT w X p v T) {w1 : World} {v' : Value} {T' : List Ss} (hf : Fr w w1 v.ownBlock.toList) (ho : w1.ownsRow 0 37 5 v' T'.length (rows Ss.cells T')) (hat : ∀ g, v'.ownBlock = some g → v.ownBlock = some g ∨ w.heap.size ≤ g)
    (hS : WF T') :
    HasT (w1.setCell ⟨p, 0, none⟩ v') X p v' T' ∧ Fr w (w1.setCell ⟨p, 0, none⟩ v') (fpT p v) ∧ ∀ b ∈ fpT p v', b ∈ fpT p v ∨ w.heap.size ≤ b := by
  have hn1 := h.n1
  have hb1 : Row w1 p X [v] := hf.row h.box (by simpa using hn1)
  have hp' : v'.ownBlock ≠ some p := fun e => by
    rcases hat p e with h1 | h1
    · exact hn1 h1
    · have := h.box.lt; omega
  have hf2 : Fr w1 (w1.setCell ⟨p, 0, none⟩ v') [p] := (Fr.refl w1 [p]).setCell (p := ⟨p, 0, none⟩) (.inl (by simp)) v'
  refine ⟨⟨hb1.set_ 0 v', hf2.own ho (fun g hg => by simp; rintro rfl; exact hp' hg), hS, h.ty⟩, ?_, ?_⟩
  · exact (hf.mono (fun b hb => by simp at hb; simp [fpT, hb])).trans hf2 (by intro b hb _; simp at hb; simp [fpT, hb])
  · intro b hb
    rcases fpT_mem.1 hb with rfl | hb
    · exact .inl (by simp [fpT])
    · rcases hat b hb with h1 | h1
      · exact .inl (by simp [fpT, h1])
      · exact .inr h1
end

/-- the law's own table -/
def Sk (w0 : World) (X p : Nat) (S : List Ss) (w : World) : Prop := ∃ fp, Gk X p S fp w ∧ (∀ b ∈ fp, w0.heap.size ≤ b) ∧ Below w0.heap.size w0 w
/-- two, apart -/
def Tk (w0 : World) (X p : Nat) (S : List Ss) (Y q : Nat) (T : List Ss) (w : World) : Prop :=
  ∃ fp fq, Gk X p S fp w ∧ Gk Y q T fq w ∧ (∀ b ∈ fp, b ∉ fq) ∧ (∀ b ∈ fp, w0.heap.size ≤ b) ∧ (∀ b ∈ fq, w0.heap.size ≤ b) ∧ Below w0.heap.size w0 w
section
variable {w0 w w' : World} {X p Y q : Nat} {S S' T T' : List Ss} {P : Program} {f : FuncId} {args : Array Value} {v : Ending}
theorem Sk.frame (h : Sk w0 X p S w) : Below w0.heap.size w0 w := by obtain ⟨_, _, _, h⟩ := h; exact h
theorem Sk.wf (h : Sk w0 X p S w) : WF S := by obtain ⟨_, h, _⟩ := h; exact h.wf
theorem Sk.below (h : Sk w0 X p S w) (hb : Below w.heap.size w w') : Sk w0 X p S w' := by
  obtain ⟨fp, h1, h2, h3⟩ := h
  exact ⟨fp, h1.below hb, h2, h3.trans (hb.mono h3.size)⟩
theorem Sk.drewN (h : Sk w0 X p S w) (n : Nat) : Sk w0 X p S (w.drewN n) := h.below ⟨rfl, rfl, rfl, Nat.le_refl _, fun _ _ => rfl⟩
theorem Sk.alloc (h : Sk w0 X p S w) (o : Obj) : Sk w0 X p S (w.alloc o) := h.below ((Below.refl _ _).alloc (Nat.le_refl _) o)
theorem Sk.gw {fp : List Nat} (h1 : ∀ b ∈ fp, w0.heap.size ≤ b) (h2 : Below w0.heap.size w0 w) (h : Gw X p w fp S w') : Sk w0 X p S w' := by
  obtain ⟨fq, k1, k2, k3⟩ := h
  refine ⟨fq, k1, fun b hb => ?_, h2.trans (k2.below h1 h2.size)⟩
  rcases k3 b hb with h | h
  · exact h1 b h
  · exact Nat.le_trans h2.size h
theorem Sk.call (h : Sk w0 X p S w) (H : ∀ fp, Gk X p S fp w → Calls P f args w fun e w' => e = v ∧ Gw X p w fp S' w') : Calls P f args w fun e w' => e = v ∧ Sk w0 X p S' w' := by
  obtain ⟨fp, h1, h2, h3⟩ := h
  exact (H fp h1).mono fun e w' hh => ⟨hh.1, Sk.gw h2 h3 hh.2⟩
theorem Sk.look {Q : Ending → World → Prop} (h : Sk w0 X p S w) (H : ∀ v, HasT w X p v S → Calls P f args w Q) : Calls P f args w Q := by
  obtain ⟨_, ⟨v, rfl, h1⟩, _⟩ := h
  exact H v h1

theorem Tk.frame (h : Tk w0 X p S Y q T w) : Below w0.heap.size w0 w := by obtain ⟨_, _, _, _, _, _, _, h⟩ := h; exact h
theorem Tk.fst (h : Tk w0 X p S Y q T w) : Sk w0 X p S w := by obtain ⟨fp, fq, h1, h2, h3, h4, h5, h6⟩ := h; exact ⟨fp, h1, h4, h6⟩
theorem Tk.snd (h : Tk w0 X p S Y q T w) : Sk w0 Y q T w := by obtain ⟨fp, fq, h1, h2, h3, h4, h5, h6⟩ := h; exact ⟨fq, h2, h5, h6⟩
theorem Tk.below (h : Tk w0 X p S Y q T w) (hb : Below w.heap.size w w') : Tk w0 X p S Y q T w' := by
  obtain ⟨fp, fq, h1, h2, h3, h4, h5, h6⟩ := h
  exact ⟨fp, fq, h1.below hb, h2.below hb, h3, h4, h5, h6.trans (hb.mono h6.size)⟩
theorem Tk.drewN (h : Tk w0 X p S Y q T w) (n : Nat) : Tk w0 X p S Y q T (w.drewN n) := h.below ⟨rfl, rfl, rfl, Nat.le_refl _, fun _ _ => rfl⟩
theorem Tk.swap (h : Tk w0 X p S Y q T w) : Tk w0 Y q T X p S w := by
  obtain ⟨fp, fq, h1, h2, h3, h4, h5, h6⟩ := h
  exact ⟨fq, fp, h2, h1, fun b hb hn => h3 b hn hb, h5, h4, h6⟩
theorem Tk.step1 {fp fq : List Nat} (h2 : Gk Y q T fq w) (h3 : ∀ b ∈ fp, b ∉ fq) (h4 : ∀ b ∈ fp, w0.heap.size ≤ b) (h5 : ∀ b ∈ fq, w0.heap.size ≤ b) (h6 : Below w0.heap.size w0 w) (h : Gw X p w fp S' w') : Tk w0 X p S' Y q T w' := by
  obtain ⟨fr, k1, k2, k3⟩ := h
  refine ⟨fr, fq, k1, h2.fr k2 (fun b hb hn => h3 b hn hb), ?_, ?_, h5, h6.trans (k2.below h4 h6.size)⟩
  · intro b hb hn
    rcases k3 b hb with h | h
    · exact h3 b h hn
    · have := h2.lt b hn; omega
  · intro b hb
    rcases k3 b hb with h | h
    · exact h4 b h
    · exact Nat.le_trans h6.size h
theorem Tk.call1 (h : Tk w0 X p S Y q T w) (H : ∀ fp, Gk X p S fp w → Calls P f args w fun e w' => e = v ∧ Gw X p w fp S' w') : Calls P f args w fun e w' => e = v ∧ Tk w0 X p S' Y q T w' := by
  obtain ⟨fp, fq, h1, h2, h3, h4, h5, h6⟩ := h
  exact (H fp h1).mono fun e w' hh => ⟨hh.1, Tk.step1 h2 h3 h4 h5 h6 hh.2⟩
theorem Tk.call2 (h : Tk w0 X p S Y q T w) (H : ∀ fp, Gk Y q T fp w → Calls P f args w fun e w' => e = v ∧ Gw Y q w fp T' w') : Calls P f args w fun e w' => e = v ∧ Tk w0 X p S Y q T' w' :=
  (h.swap.call1 H).mono fun _ _ hh => ⟨hh.1, hh.2.swap⟩
/-- a second one is made -/
theorem Sk.two {fq : List Nat} (h : Sk w0 X p S w) (hb : Below w.heap.size w w') (hk : Gk Y q T fq w') (hn : ∀ b ∈ fq, w.heap.size ≤ b) : Tk w0 X p S Y q T w' := by
  obtain ⟨fp, h1, h2, h3⟩ := h
  refine ⟨fp, fq, h1.below hb, hk, fun b hb hm => ?_, h2, fun b hb => Nat.le_trans h3.size (hn b hb), h3.trans (hb.mono h3.size)⟩
  have := h1.lt b hb
  have := hn b hm
  omega
end

/-- the law's own table, and a list apart from it -/
def Ak (w0 : World) (X p : Nat) (S : List Ss) (A : Option Addr) (xs : List Value) (w : World) : Prop :=
  ∃ fp, Gk X p S fp w ∧ (∀ b ∈ fp, w0.heap.size ≤ b) ∧ Below w0.heap.size w0 w ∧ Rd w w.heap.size A xs ∧ (xs ≠ [] → ∀ a, A = some a → a.block ∉ fp)
section
variable {w0 w w' : World} {X p : Nat} {S S' : List Ss} {A : Option Addr} {xs : List Value}
theorem Sk.list (h : Sk w0 X p S w) (hr : Rd w' w'.heap.size A xs) (hb : Below w.heap.size w w') (hn : NewA w A) : Ak w0 X p S A xs w' := by
  obtain ⟨fp, h1, h2, h3⟩ := h
  refine ⟨fp, h1.below hb, h2, h3.trans (hb.mono h3.size), hr, fun _ a ha hm => ?_⟩
  have := h1.lt _ hm
  have := hn a ha
  omega
theorem Ak.fst (h : Ak w0 X p S A xs w) : Sk w0 X p S w := by
  obtain ⟨fp, h1, h2, h3, _⟩ := h
  exact ⟨fp, h1, h2, h3⟩
theorem Ak.frame (h : Ak w0 X p S A xs w) : Below w0.heap.size w0 w := h.fst.frame
theorem Ak.rd (h : Ak w0 X p S A xs w) : Rd w w.heap.size A xs := by
  obtain ⟨fp, h1, h2, h3, h4, _⟩ := h
  exact h4
theorem Ak.below (h : Ak w0 X p S A xs w) (hb : Below w.heap.size w w') : Ak w0 X p S A xs w' := by
  obtain ⟨fp, h1, h2, h3, h4, h5⟩ := h
  exact ⟨fp, h1.below hb, h2, h3.trans (hb.mono h3.size), (h4.below hb (Nat.le_refl _)).more hb.size, h5⟩
theorem Ak.call {P : Program} {f : FuncId} {args : Array Value} {v : Ending} (h : Ak w0 X p S A xs w) (H : ∀ fp, Gk X p S fp w → Calls P f args w fun e w' => e = v ∧ Gw X p w fp S' w') : Calls P f args w fun e w' => e = v ∧ Ak w0 X p S' A xs w' := by
  obtain ⟨fp, h1, h2, h3, h4, h5⟩ := h
  refine (H fp h1).mono fun e w' hh => ⟨hh.1, ?_⟩
  obtain ⟨fq, k1, k2, k3⟩ := hh.2
  refine ⟨fq, k1, fun b hb => ?_, h3.trans (k2.below h2 h3.size), fun hne => ?_, fun hne a ha hm => ?_⟩
  · rcases k3 b hb with h | h
    · exact h2 b h
    · exact Nat.le_trans h3.size h
  · obtain ⟨g, o, rfl, hg, hc⟩ := (show _ from h4) hne
    exact (Fr.rd' k2 (fun _ => ⟨g, o, rfl, hg, hc⟩) (h5 hne _ rfl)).more k2.size hne
  · rcases k3 _ hm with h | h
    · exact h5 hne a ha h
    · obtain ⟨g, o, e, hg, _⟩ := h4 hne
      rw [ha] at e
      cases e
      simp only at h
      omega
theorem Sk.mk' {fp : List Nat} (hb : Below w0.heap.size w0 w) (hk : Gk X p S fp w') (hf : ∀ b ∈ fp, w.heap.size ≤ b) (hx : Below w.heap.size w w') : Sk w0 X p S w' := ⟨fp, hk, fun b h => Nat.le_trans hb.size (hf b h), hb.trans (hx.mono hb.size)⟩
end
/-- a new table, all of it in new memory -/
def NG (X : Nat) (w : World) (S : List Ss) (v : Nat → Value) (e : Ending) (w' : World) : Prop := ∃ p fp, e = .returned (v p) ∧ Gk X p S fp w' ∧ (∀ b ∈ fp, w.heap.size ≤ b) ∧ Below w.heap.size w w'
theorem nil_has {w : World} {X p : Nat} (hr : Row w p X [.slice none 0 0]) (ty : X ≠ 37) : HasT w X p (.slice none 0 0) [] :=
  ⟨hr, World.ownsRow_nil _ _ _ _, nil_wf, ty⟩
theorem ssSize : (Try.prog.info? 37).map (·.size) = some 5 := by kernel_rfl
theorem ssInfo : (Try.prog.info? 37).map (fun i => (i.zero, i.size, i.bytes)) = some (some (.agg ss0.cells.toArray), 5, 48) := by kernel_rfl
set_option maxHeartbeats 400000 in
theorem new_any (w : World) : Calls Try.prog 9 #[] w (NG 54 w [] (fun p => .pointer (some ⟨p, 0, none⟩))) := by
  go_enter Try.func9, Try.ntmps9
  go_wp2_with fail
  go_ret
  refine ⟨w.heap.size, _, rfl, ⟨_, rfl, nil_has (Row.new w _ #[.slice none 0 0]) (by decide)⟩, ?_, (Below.refl _ _).alloc (Nat.le_refl _) _⟩
  intro b hb
  simp [fpT, Value.ownBlock] at hb
  omega
end Go.Proofs.Ytgphijkonmdehaa
