/-
  A ledger in memory: its two slices' cells, its accounts' cells, its transfers' cells; what a call leaves alone.
-/
import Derived.Test.YtgednnjmcjhfmaaGreatDoorM09
import Derived.Test.YtgednnjmcjhfmaaGreatDoorM06
import Derived.Deep.AppendLies
import Derived.Deep.MidRow
namespace Go.Proofs.YtgednnjmcjhfmaaGreatDoor
open Go.RowKit
set_option maxRecDepth 10000
set_option maxHeartbeats 80000000
/-- of the blocks that were there only those in fp may have turned -/
structure Fr (w w' : World) (fp : List Nat) : Prop where
 os : w'.os = w.os
 tape : w'.tape = w.tape
 output : w'.output = w.output
 size : w.heap.size ≤ w'.heap.size
 block : ∀ k, k < w.heap.size → k ∉ fp → w'.heap[k]? = w.heap[k]?
section
variable {w w' w'' : World} {fp fq : List Nat}
theorem Fr.refl (w : World) (fp : List Nat) : Fr w w fp := ⟨rfl, rfl, rfl, Nat.le_refl _, fun _ _ _ => rfl⟩
theorem Fr.trans (h : Fr w w' fp) (k : Fr w' w'' fq) (hq : ∀ b, b ∈ fq → b < w.heap.size → b ∈ fp) : Fr w w'' fp :=
 ⟨k.os.trans h.os, k.tape.trans h.tape, k.output.trans h.output, Nat.le_trans h.size k.size, fun b hb hn =>
  (k.block b (Nat.lt_of_lt_of_le hb h.size) (fun hm => hn (hq b hm hb))).trans (h.block b hb hn)⟩
theorem Fr.mono (h : Fr w w' fp) (hq : ∀ b, b ∈ fp → b ∈ fq) : Fr w w' fq := ⟨h.os, h.tape, h.output, h.size, fun b hb hn => h.block b hb (fun hm => hn (hq b hm))⟩
theorem Fr.drew (h : Fr w w' fp) : Fr w w'.drew fp := ⟨h.os, h.tape, h.output, h.size, h.block⟩
theorem Fr.alloc (h : Fr w w' fp) (o : Obj) : Fr w (w'.alloc o) fp :=
 h.trans (fq := []) ⟨rfl, rfl, rfl, by simp, fun k hk _ => Below.heap_alloc _ _ _ hk⟩ (by simp)
theorem Fr.setCell (h : Fr w w' fp) {p : Addr} (hp : p.block ∈ fp ∨ w.heap.size ≤ p.block) (u : Value) : Fr w (w'.setCell p u) fp :=
 h.trans (fq := [p.block]) ⟨rfl, rfl, rfl, by simp [World.setCell], fun k _ hk => Below.heap_setCell _ _ _ _ (by simpa using hk)⟩ (by simp; intro hb; rcases hp with hp | hp <;> first | exact hp | omega)
theorem Fr.grown {row : Option Nat} (h : Fr w w' fp) (hg : w'.grownBy w'' row) (hr : ∀ k, row = some k → k ∈ fp ∨ w.heap.size ≤ k) : Fr w w'' fp :=
 h.trans (fq := row.toList) ⟨hg.os, hg.tape, hg.output, hg.size, fun k hk hn => hg.block k hk (fun e => hn (by simp [← e]))⟩ (by
  intro b hb hlt
  simp at hb
  rcases hr b hb with h | h
  ·
   exact h
  ·
   omega)
theorem Fr.below {B : Nat} (h : Fr w w' fp) (hB : ∀ b ∈ fp, B ≤ b) (hs : B ≤ w.heap.size) : Below B w w' :=
 ⟨h.os, h.tape, h.output, h.size, fun k hk => h.block k (by omega) (fun hm => by have := hB k hm; omega)⟩
theorem Fr.row (h : Fr w w' fp) {g : Nat} {e : TypeId} {cs : List Value} (hr : Row w g e cs) (hg : g ∉ fp) : Row w' g e cs := (h.block g hr.lt hg).trans hr
theorem Fr.own (h : Fr w w' fp) {B : Nat} {e : TypeId} {s : Nat} {v : Value} {n : Nat} {xs : List Value} (ho : w.ownsRow B e s v n xs) (hg : ∀ g, v.ownBlock = some g → g ∉ fp) : w'.ownsRow B e s v n xs := by
 refine ⟨ho.1, ?_⟩
 rcases ho.2 with hn | ⟨g, cap, cur, rfl, hb, hgg, rest⟩
 ·
  exact .inl hn
 ·
  refine .inr ⟨g, cap, cur, rfl, hb, ?_, rest⟩
  rw [h.block g (Array.getElem?_eq_some_iff.1 hgg).1 (hg g rfl)]
  exact hgg
/-- what reads in blocks that have not turned -/
theorem Fr.rd' (h : Fr w w' fp) {g o B : Nat} {xs : List Value} (hr : Rd w B (some ⟨g, o, none⟩) xs) (hg : g ∉ fp) (hlt : B ≤ w.heap.size := by exact Nat.le_refl _) : Rd w' B (some ⟨g, o, none⟩) xs := fun hn => by
 obtain ⟨g0, o0, e, hgb, hc⟩ := hr hn
 cases e
 exact ⟨g, o, rfl, hgb, fun j u hu => (World.cell?_of_block (w := w) (a := ⟨g, o + j, none⟩) (h.block g (by omega) hg)).trans (hc j u hu)⟩
end

theorem Row.at_ {w : World} {g : Nat} {e : TypeId} {cs : List Value} (h : Row w g e cs) (i : Nat) (u : Value) (hu : cs[i]? = some u) : w.cell? ⟨g, i, none⟩ = some u := (h.cell i).trans hu
theorem Fr.of_below {w w' : World} (h : Below w.heap.size w w') : Fr w w' [] := ⟨h.os, h.tape, h.output, h.size, fun k hk _ => h.block k hk⟩
/-- the ledger S lies at p, its type is X; its accounts are owned by va, its transfers by vt -/
structure HasG (w : World) (X : TypeId) (p : Nat) (va vt : Value) (S : Lg) : Prop where
 box : Row w p X [va, vt]
 accs : w.ownsRow 0 80 4 va S.A.length (rows Ac.cells S.A)
 trs : w.ownsRow 0 82 4 vt S.T.length (rows Tr.cells S.T)
 wf : S.WF
 ty : X ≠ 80 ∧ X ≠ 82
/-- the blocks that it has -/
def fpG (p : Nat) (va vt : Value) : List Nat := p :: (va.ownBlock.toList ++ vt.ownBlock.toList)
theorem fpG_mem {p b : Nat} {va vt : Value} : b ∈ fpG p va vt ↔ b = p ∨ va.ownBlock = some b ∨ vt.ownBlock = some b := by simp [fpG]
theorem own_type {w : World} {B m n g : Nat} {e : TypeId} {v : Value} {xs : List Value} (h : w.ownsRow B e m v n xs) (hg : v.ownBlock = some g) : ∃ cur, w.heap[g]? = some (.cells cur e (0, 0)) := by
 rcases h.2 with ⟨rfl, _⟩ | ⟨g', cap, cur, rfl, _, hh, _⟩
 ·
  cases hg
 ·
  cases hg
  exact ⟨cur, hh⟩
theorem own_zero {w : World} {B m n : Nat} {e : TypeId} {v : Value} {xs : List Value} (h : w.ownsRow B e m v n xs) (B' : Nat) (hB : ∀ g, v.ownBlock = some g → B' ≤ g) : w.ownsRow B' e m v n xs := by
 refine ⟨h.1, ?_⟩
 rcases h.2 with h2 | ⟨g, cap, cur, rfl, _, rest⟩
 ·
  exact .inl h2
 ·
  exact .inr ⟨g, cap, cur, rfl, hB g rfl, rest⟩
section
variable {w w' : World} {X p : Nat} {va vt : Value} {S : Lg} {fp : List Nat}
theorem HasG.n1 (h : HasG w X p va vt S) : va.ownBlock ≠ some p := fun e => by
 obtain ⟨cur, hh⟩ := own_type h.accs e
 have := h.box
 unfold Row at this
 rw [hh] at this
 simp only [Option.some.injEq, Obj.cells.injEq] at this
 exact h.ty.1 this.2.1.symm
theorem HasG.n2 (h : HasG w X p va vt S) : vt.ownBlock ≠ some p := fun e => by
 obtain ⟨cur, hh⟩ := own_type h.trs e
 have := h.box
 unfold Row at this
 rw [hh] at this
 simp only [Option.some.injEq, Obj.cells.injEq] at this
 exact h.ty.2 this.2.1.symm
theorem HasG.n3 (h : HasG w X p va vt S) (g : Nat) (ha : va.ownBlock = some g) : vt.ownBlock ≠ some g := fun e => by
 obtain ⟨cur, hh⟩ := own_type h.accs ha
 obtain ⟨cur', hh'⟩ := own_type h.trs e
 rw [hh] at hh'
 simp only [Option.some.injEq, Obj.cells.injEq] at hh'
 exact absurd hh'.2.1 (by decide)
theorem HasG.fr (h : HasG w X p va vt S) (hf : Fr w w' fp) (hd : ∀ b ∈ fpG p va vt, b ∉ fp) : HasG w' X p va vt S :=
 ⟨hf.row h.box (hd p (by simp [fpG])), hf.own h.accs (fun g hg => hd g (by simp [fpG, hg])), hf.own h.trs (fun g hg => hd g (by simp [fpG, hg])), h.wf, h.ty⟩
theorem HasG.below (h : HasG w X p va vt S) (hb : Below w.heap.size w w') : HasG w' X p va vt S := h.fr (Fr.of_below hb) (by simp)
theorem HasG.lt (h : HasG w X p va vt S) : ∀ b ∈ fpG p va vt, b < w.heap.size := by
 intro b hb
 rcases fpG_mem.1 hb with rfl | hb | hb
 ·
  exact h.box.lt
 ·
  exact (h.accs.lt b hb).2
 ·
  exact (h.trs.lt b hb).2
theorem HasG.c0 (h : HasG w X p va vt S) : w.cell? ⟨p, 0, none⟩ = some va := h.box.at_ 0 _ rfl
theorem HasG.c1 (h : HasG w X p va vt S) : w.cell? ⟨p, 1, none⟩ = some vt := h.box.at_ 1 _ rfl
theorem HasG.drew (h : HasG w X p va vt S) : HasG w.drew X p va vt S := ⟨h.box, h.accs, h.trs, h.wf, h.ty⟩
theorem HasG.va_shape (h : HasG w X p va vt S) : ∃ A c, va = .slice A S.A.length c ∧ S.A.length ≤ c ∧ Rd w w.heap.size A (rows Ac.cells S.A) := own_rd h.accs
theorem HasG.vt_shape (h : HasG w X p va vt S) : ∃ A c, vt = .slice A S.T.length c ∧ S.T.length ≤ c ∧ Rd w w.heap.size A (rows Tr.cells S.T) := own_rd h.trs
/-- where its accounts lie, if it has some -/
theorem own_some {w : World} {B m n : Nat} {e : TypeId} {v : Value} {xs : List Value} (h : w.ownsRow B e m v n xs) (hn : 0 < n) : ∃ g c, v = .slice (some ⟨g, 0, none⟩) n c ∧ n ≤ c ∧ v.ownBlock = some g := by
 rcases h.2 with ⟨rfl, h0⟩ | ⟨g, cap, cur, rfl, _, _, hc, _⟩
 ·
  omega
 ·
  exact ⟨g, cap, rfl, hc, rfl⟩
end

/-- the ledger S lies at p, in the blocks fp -/
def Gk (X p : Nat) (S : Lg) (fp : List Nat) (w : World) : Prop := ∃ va vt, fp = fpG p va vt ∧ HasG w X p va vt S
/-- since w, where it lay in fp, the ledger is S now -/
def Gw (X p : Nat) (w : World) (fp : List Nat) (S : Lg) (wr : World) : Prop := ∃ fq, Gk X p S fq wr ∧ Fr w wr fp ∧ ∀ g ∈ fq, g ∈ fp ∨ w.heap.size ≤ g
section
variable {w w' w'' : World} {X p : Nat} {S S' : Lg} {fp fq : List Nat}
theorem Gk.fr (h : Gk X p S fp w) (hf : Fr w w' fq) (hd : ∀ b ∈ fp, b ∉ fq) : Gk X p S fp w' := by
 obtain ⟨va, vt, rfl, h⟩ := h
 exact ⟨va, vt, rfl, h.fr hf hd⟩
theorem Gk.below (h : Gk X p S fp w) (hb : Below w.heap.size w w') : Gk X p S fp w' := h.fr (Fr.of_below hb) (by simp)
theorem Gk.lt (h : Gk X p S fp w) : ∀ b ∈ fp, b < w.heap.size := by
 obtain ⟨va, vt, rfl, h⟩ := h
 exact h.lt
theorem Gw.start (h : Gk X p S fp w) : Gw X p w fp S w := ⟨fp, h, Fr.refl _ _, fun _ hg => .inl hg⟩
theorem Gw.frame (h : Gw X p w fp S w') : Fr w w' fp := by
 obtain ⟨_, _, h, _⟩ := h
 exact h
theorem Gw.kept (h : Gw X p w fp S w') (hf : Fr w' w'' []) : Gw X p w fp S w'' := by
 obtain ⟨fq, h1, h2, h3⟩ := h
 exact ⟨fq, h1.fr hf (by simp), h2.trans hf (by simp), h3⟩
theorem Gw.below (h : Gw X p w fp S w') (hb : Below w'.heap.size w' w'') : Gw X p w fp S w'' := h.kept (Fr.of_below hb)
/-- one thing behind another -/
theorem Gw.step (h : Gw X p w fp S w') (hn : ∀ fq, Gk X p S fq w' → Gw X p w' fq S' w'') : Gw X p w fp S' w'' := by
 obtain ⟨fq, h1, h2, h3⟩ := h
 obtain ⟨fr, k1, k2, k3⟩ := hn fq h1
 have hs := h2.size
 refine ⟨fr, k1, h2.trans k2 (fun b hb hlt => ?_), fun g hg => ?_⟩
 ·
  rcases h3 b hb with h | h
  ·
   exact h
  ·
   omega
 ·
  rcases k3 g hg with h | h
  ·
   exact h3 g h
  ·
   right; omega
/-- a call on what is there now -/
theorem Gw.call {P : Program} {f : FuncId} {args : Array Value} {v : Ending} (h : Gw X p w fp S w') (H : ∀ fq, Gk X p S fq w' → Calls P f args w' fun e w'' => e = v ∧ Gw X p w' fq S' w'') : Calls P f args w' fun e w'' => e = v ∧ Gw X p w fp S' w'' := by
 obtain ⟨fq, h1, h2, h3⟩ := h
 refine (H fq h1).mono fun e w'' hh => ⟨hh.1, ?_⟩
 obtain ⟨fr, k1, k2, k3⟩ := hh.2
 have hs := h2.size
 refine ⟨fr, k1, h2.trans k2 (fun b hb hlt => ?_), fun g hg => ?_⟩
 ·
  rcases h3 b hb with h | h
  ·
   exact h
  ·
   omega
 ·
  rcases k3 g hg with h | h
  ·
   exact h3 g h
  ·
   right; omega
/-- what reads in blocks that it has not -/
theorem Gw.rd (h : Gw X p w fp S w') {g o B : Nat} {xs : List Value} (hr : Rd w B (some ⟨g, o, none⟩) xs) (hg : g ∉ fp) (hB : B ≤ w.heap.size) : Rd w' B (some ⟨g, o, none⟩) xs := fun hn => by
 obtain ⟨g0, o0, e, hgb, hc⟩ := hr hn
 cases e
 exact ⟨g, o, rfl, hgb, fun j u hu => (World.cell?_of_block (w := w) (a := ⟨g, o + j, none⟩) (h.frame.block g (by omega) hg)).trans (hc j u hu)⟩
end

/-! ### one account is turned, one more is there -/
theorem own_set {w : World} {B m n g : Nat} {e : TypeId} {v : Value} {xs : List Value} (h : w.ownsRow B e m v n xs) (hg : v.ownBlock = some g) (j : Nat) (u : Value) (hj : j < xs.length) : (w.setCell ⟨g, j, none⟩ u).ownsRow B e m v n (xs.set j u) := by
 refine ⟨by rw [List.length_set]; exact h.1, ?_⟩
 rcases h.2 with ⟨rfl, _⟩ | ⟨g', cap, cur, hv, hb, hh, h1, h2, h3, h4⟩
 ·
  cases hg
 ·
  subst hv
  obtain rfl : g' = g := by simpa [Value.ownBlock] using hg
  have hr : Row w g' e cur.toList := by unfold Row; simpa using hh
  have hr2 := hr.set_ j u
  have hl := h.1
  refine .inr ⟨g', cap, (cur.toList.set j u).toArray, rfl, hb, hr2, h1, h2, by simp [h3], ?_⟩
  have hj2 : j < n * m := by omega
  rw [← h4]
  rw [List.take_set]
theorem rows_set {α : Type} {C : α → List Value} {n : Nat} (hC : ∀ x, (C x).length = n) (l : List α) (i j : Nat) (u : Value) (y : α) (hi : i < l.length) (hj : j < n) (hy : (C l[i]).set j u = C y) : (rows C l).set (i * n + j) u = rows C (l.set i y) := by
 unfold rows
 rw [flat_set n (l.map C) i j u (by simpa using hi) (by intro r hr; obtain ⟨x, _, rfl⟩ := List.mem_map.1 hr; exact hC x) hj]
 congr 1
 rw [List.getElem_map, hy, List.map_set]
section
variable {w : World} {X p : Nat} {va vt : Value} {S : Lg}
theorem HasG.turn (h : HasG w X p va vt S) {g : Nat} (hg : va.ownBlock = some g) (i j : Nat) (u : Value) (y : Ac) (hi : i < S.A.length) (hj : j < 4) (hy : (Ac.cells S.A[i]).set j u = Ac.cells y) (hf : y.flat) :
  HasG (w.setCell ⟨g, i * 4 + j, none⟩ u) X p va vt ⟨S.A.set i y, S.T⟩ := by
 have hl := rows_len (C := Ac.cells) Ac.len S.A
 have hne : g ≠ p := fun e => h.n1 (by rw [hg, e])
 have h1 := own_set h.accs hg (i * 4 + j) u (by omega)
 rw [rows_set Ac.len S.A i j u y hi hj hy] at h1
 refine ⟨h.box.far (by exact Ne.symm hne) u, ?_, ?_, ⟨by simpa using h.wf.la, h.wf.lt, ?_, h.wf.ot⟩, h.ty⟩
 ·
  simpa using h1
 ·
  exact ((Fr.refl w [g]).setCell (p := ⟨g, i * 4 + j, none⟩) (.inl (by simp)) u).own h.trs (fun g' hg' => by
   have := h.n3 g hg
   simp
   rintro rfl
   exact this hg')
 ·
  intro x hx
  rcases List.mem_or_eq_of_mem_set hx with hx | rfl
  ·
   exact h.wf.oa x hx
  ·
   exact hf
theorem HasG.cellA (h : HasG w X p va vt S) {g : Nat} (hg : va.ownBlock = some g) (i j : Nat) (hi : i < S.A.length) (hj : j < 4) : w.cell? ⟨g, i * 4 + j, none⟩ = (Ac.cells S.A[i])[j]? := by
 have hl := rows_len (C := Ac.cells) Ac.len S.A
 have h1 := rows_get Ac.len S.A i j hi hj
 have h2 : (Ac.cells S.A[i])[j]? = some ((Ac.cells S.A[i])[j]'(by rw [Ac.len]; exact hj)) := List.getElem?_eq_getElem _
 rw [h2]
 have := h.accs.cells hg (i * 4 + j) _ (h1.trans h2)
 rw [add_lit, Nat.zero_add] at this
 exact this
theorem HasG.frozenA (h : HasG w X p va vt S) {g : Nat} (hg : va.ownBlock = some g) (i : Nat) : w.frozen? ⟨g, i, none⟩ = false := by
 obtain ⟨cur, hh⟩ := own_type h.accs hg
 exact frozen_of_row w g i cur _ hh
theorem Fr.turn {g : Nat} (w : World) (j : Nat) (u : Value) (hg : va.ownBlock = some g) : Fr w (w.setCell ⟨g, j, none⟩ u) (fpG p va vt) := (Fr.refl w _).setCell (p := ⟨g, j, none⟩) (.inl (by simp [fpG, hg])) u
/-- one more account -/
theorem HasG.moreA (h : HasG w X p va vt S) {w1 : World} {va' : Value} {x : Ac} (hf : Fr w w1 va.ownBlock.toList) (ho : w1.ownsRow 0 80 4 va' (S.A.length + 1) (rows Ac.cells S.A ++ x.cells)) (hat : ∀ g, va'.ownBlock = some g → va.ownBlock = some g ∨ w.heap.size ≤ g)
  (hS : S.A.length + 1 ≤ 8) (hx : x.flat) :
  HasG (w1.setCell ⟨p, 0, none⟩ va') X p va' vt ⟨S.A ++ [x], S.T⟩ ∧ Fr w (w1.setCell ⟨p, 0, none⟩ va') (fpG p va vt) ∧ ∀ b ∈ fpG p va' vt, b ∈ fpG p va vt ∨ w.heap.size ≤ b := by
 have hn1 := h.n1
 have hb1 : Row w1 p X [va, vt] := hf.row h.box (by simpa using hn1)
 have ht1 := hf.own h.trs (fun g hg => by
  simp
  intro e
  exact h.n3 g e hg)
 have hp' : va'.ownBlock ≠ some p := fun e => by
  rcases hat p e with h1 | h1
  ·
   exact hn1 h1
  ·
   have := h.box.lt; omega
 have hf2 : Fr w1 (w1.setCell ⟨p, 0, none⟩ va') [p] := (Fr.refl w1 [p]).setCell (p := ⟨p, 0, none⟩) (.inl (by simp)) va'
 refine ⟨⟨hb1.set_ 0 va', ?_, ?_, ⟨by simpa using hS, h.wf.lt, ?_, h.wf.ot⟩, h.ty⟩, ?_, ?_⟩
 ·
  have := hf2.own ho (fun g hg => by simp; rintro rfl; exact hp' hg)
  rw [List.length_append, rows_app]
  simpa [rows] using this
 ·
  exact hf2.own ht1 (fun g hg => by simp; rintro rfl; exact h.n2 hg)
 ·
  intro y hy
  rcases List.mem_append.1 hy with hy | hy
  ·
   exact h.wf.oa y hy
  ·
   rw [List.mem_singleton.1 hy]; exact hx
 ·
  exact (hf.mono (fun b hb => by simp at hb; simp [fpG, hb])).trans hf2 (by intro b hb _; simp at hb; simp [fpG, hb])
 ·
  intro b hb
  rcases fpG_mem.1 hb with rfl | hb | hb
  ·
   exact .inl (by simp [fpG])
  ·
   rcases hat b hb with h1 | h1
   ·
    exact .inl (by simp [fpG, h1])
   ·
    exact .inr h1
  ·
   exact .inl (by simp [fpG, hb])
/-- one more transfer -/
theorem HasG.moreT (h : HasG w X p va vt S) {w1 : World} {vt' : Value} {x : Tr} (hf : Fr w w1 vt.ownBlock.toList) (ho : w1.ownsRow 0 82 4 vt' (S.T.length + 1) (rows Tr.cells S.T ++ x.cells)) (hat : ∀ g, vt'.ownBlock = some g → vt.ownBlock = some g ∨ w.heap.size ≤ g)
  (hS : S.T.length + 1 ≤ 16) (hx : x.ok) :
  HasG (w1.setCell ⟨p, 1, none⟩ vt') X p va vt' ⟨S.A, S.T ++ [x]⟩ ∧ Fr w (w1.setCell ⟨p, 1, none⟩ vt') (fpG p va vt) ∧ ∀ b ∈ fpG p va vt', b ∈ fpG p va vt ∨ w.heap.size ≤ b := by
 have hn1 := h.n2
 have hb1 : Row w1 p X [va, vt] := hf.row h.box (by simpa using hn1)
 have ht1 := hf.own h.accs (fun g hg => by
  simp
  intro e
  exact h.n3 g hg e)
 have hp' : vt'.ownBlock ≠ some p := fun e => by
  rcases hat p e with h1 | h1
  ·
   exact hn1 h1
  ·
   have := h.box.lt; omega
 have hf2 : Fr w1 (w1.setCell ⟨p, 1, none⟩ vt') [p] := (Fr.refl w1 [p]).setCell (p := ⟨p, 1, none⟩) (.inl (by simp)) vt'
 refine ⟨⟨hb1.set_ 1 vt', ?_, ?_, ⟨h.wf.la, by simpa using hS, h.wf.oa, ?_⟩, h.ty⟩, ?_, ?_⟩
 ·
  exact hf2.own ht1 (fun g hg => by simp; rintro rfl; exact h.n1 hg)
 ·
  have := hf2.own ho (fun g hg => by simp; rintro rfl; exact hp' hg)
  rw [List.length_append, rows_app]
  simpa [rows] using this
 ·
  intro y hy
  rcases List.mem_append.1 hy with hy | hy
  ·
   exact h.wf.ot y hy
  ·
   rw [List.mem_singleton.1 hy]; exact hx
 ·
  exact (hf.mono (fun b hb => by simp at hb; simp [fpG, hb])).trans hf2 (by intro b hb _; simp at hb; simp [fpG, hb])
 ·
  intro b hb
  rcases fpG_mem.1 hb with rfl | hb | hb
  ·
   exact .inl (by simp [fpG])
  ·
   exact .inl (by simp [fpG, hb])
  ·
   rcases hat b hb with h1 | h1
   ·
    exact .inl (by simp [fpG, h1])
   ·
    exact .inr h1
end
theorem onebyte_any (n : Nat) (w : World) (h2 : (n : Int) ≤ 255) : Calls Tryz.prog 109 #[.int .i64 (n : Int)] w (SE w [UInt8.ofNat n]) := by
 have hr : Rd (w.alloc (.cells #[.int .u8 (n : Int)] 5)) (w.heap.size + 1) (some ⟨w.heap.size, 0, none⟩) (bvs [UInt8.ofNat n]) := by
  have e : bvs [UInt8.ofNat n] = [.int .u8 (n : Int)] := by simp [bvs, bv_ofNat]; omega
  rw [e]
  exact Row.rd (Row.new w 5 #[.int .u8 (n : Int)]) (by omega)
 have HR := hid hr
 clear hr
 go_enter Tryz.func109, Tryz.ntmps109
 go_wp2_with (with_reducible refine wpl_str rfl _ 85 9 rfl 5 Tryz.underlying85 Tryz.underlying5 Tryz.underlying9 _ 1 1 rfl (w.heap.size + 1) [UInt8.ofNat n] ?_ (hid HR.out) (hid rfl))
 go_ret
 exact ⟨rfl, (Below.refl _ _).alloc (Nat.le_refl _) _⟩
theorem rbyte_any (n : Nat) (w : World) (h2 : (n : Int) ≤ 255) : Calls Tryz.prog 76 #[.int .i64 (n : Int)] w (SE w [UInt8.ofNat n]) := by
 have hr : Rd (w.alloc (.cells #[.int .u8 (n : Int)] 5)) (w.heap.size + 1) (some ⟨w.heap.size, 0, none⟩) (bvs [UInt8.ofNat n]) := by
  have e : bvs [UInt8.ofNat n] = [.int .u8 (n : Int)] := by simp [bvs, bv_ofNat]; omega
  rw [e]
  exact Row.rd (Row.new w 5 #[.int .u8 (n : Int)]) (by omega)
 have HR := hid hr
 clear hr
 go_enter Tryz.func76, Tryz.ntmps76
 go_wp2_with (with_reducible refine wpl_str rfl _ 85 9 rfl 5 Tryz.underlying85 Tryz.underlying5 Tryz.underlying9 _ 1 1 rfl (w.heap.size + 1) [UInt8.ofNat n] ?_ (hid HR.out) (hid rfl))
 go_ret
 exact ⟨rfl, (Below.refl _ _).alloc (Nat.le_refl _) _⟩
theorem u64_wrap_big (a b : Nat) (ha : U64 a) (hb : U64 b) (h : ¬ U64 (a + b)) : IntKind.u64.wrap ((a : Int) + (b : Int)) = ((a + b - 18446744073709551616 : Nat) : Int) := by
 unfold U64 at *
 simp [IntKind.wrap, IntKind.signed, IntKind.bits]
 omega
theorem u64_wrap_small (a b : Nat) (h : U64 (a + b)) : IntKind.u64.wrap ((a : Int) + (b : Int)) = ((a + b : Nat) : Int) := by
 unfold U64 at *
 simp [IntKind.wrap, IntKind.signed, IntKind.bits]
 omega
theorem round_any (a b : Nat) (w : World) (ha : U64 a) (hb : U64 b) : Calls Tryz.prog 148 #[.int .u64 (a : Int), .int .u64 (b : Int)] w fun e w' => e = .returned (.bool (decide (¬ U64 (a + b)))) ∧ w = w' := by
 by_cases h : U64 (a + b)
 ·
  have e1 := u64_wrap_small a b h
  have e2 : decide (((a + b : Nat) : Int) < (a : Int)) = false := decide_eq_false (by omega)
  have e3 : decide (¬ U64 (a + b)) = false := decide_eq_false (fun x => x h)
  rw [e3]
  unfold U64 at *
  go_enter Tryz.func148, Tryz.ntmps148
  go_wp2_with fail
  go_ret
  first | exact ⟨rfl, rfl⟩ | (refine ⟨?_, rfl⟩; congr 2; simp; omega)
 ·
  have e1 := u64_wrap_big a b ha hb h
  have e3 : decide (¬ U64 (a + b)) = true := decide_eq_true h
  rw [e3]
  unfold U64 at *
  go_enter Tryz.func148, Tryz.ntmps148
  go_wp2_with fail
  go_ret
  first | exact ⟨rfl, rfl⟩ | (refine ⟨?_, rfl⟩; congr 2; simp; omega)
theorem over_any (a b : Nat) (w : World) (_ : U64 a) (hb : U64 b) : Calls Tryz.prog 138 #[.int .u64 (a : Int), .int .u64 (b : Int)] w fun e w' => e = .returned (.bool (decide (¬ U64 (a + b)))) ∧ w = w' := by
 unfold U64 at *
 by_cases h : a + b < 18446744073709551616
 ·
  have e3 : decide (¬ (a + b < 18446744073709551616)) = false := decide_eq_false (fun x => x h)
  rw [e3]
  go_enter Tryz.func138, Tryz.ntmps138
  go_wp2_with fail
  go_ret
  first | exact ⟨rfl, rfl⟩ | (refine ⟨?_, rfl⟩; congr 2; simp; omega)
 ·
  have e3 : decide (¬ (a + b < 18446744073709551616)) = true := decide_eq_true h
  rw [e3]
  go_enter Tryz.func138, Tryz.ntmps138
  go_wp2_with fail
  go_ret
  first | exact ⟨rfl, rfl⟩ | (refine ⟨?_, rfl⟩; congr 2; simp; omega)
theorem isa_yes (x : Ac) (b : Nat) (w : World) (hc : w.cell? ⟨b, 0, none⟩ = some (.int .u64 (Ac.id x : Int))) : Calls Tryz.prog 147 #[.agg (Ac.cells x).toArray, .pointer (some ⟨b, 0, none⟩)] w (VE w (.bool true)) := by
 have hb := World.block_lt_of_cell? w _ hc
 obtain ⟨id, fl, db, cr⟩ := x
 show Calls Tryz.prog 147 #[.agg #[.int .u64 (id : Int), .int .i64 fl, .int .u64 (db : Int), .int .u64 (cr : Int)], .pointer (some ⟨b, 0, none⟩)] w _
 go_enter Tryz.func147, Tryz.ntmps147
 go_wp2_with fail
 go_ret
 exact ⟨rfl, (Below.refl _ _).alloc (Nat.le_refl _) _⟩
theorem isa_no (x : Ac) (id' : Nat) (b : Nat) (w : World) (hc : w.cell? ⟨b, 0, none⟩ = some (.int .u64 (id' : Int))) (hne : Ac.id x ≠ id') : Calls Tryz.prog 147 #[.agg (Ac.cells x).toArray, .pointer (some ⟨b, 0, none⟩)] w (VE w (.bool false)) := by
 have hb := World.block_lt_of_cell? w _ hc
 obtain ⟨id, fl, db, cr⟩ := x
 have h1 : ((id : Int) == (id' : Int)) = false := beq_eq_false_iff_ne.2 (by intro e; apply hne; show id = id'; omega)
 clear hne
 show Calls Tryz.prog 147 #[.agg #[.int .u64 (id : Int), .int .i64 fl, .int .u64 (db : Int), .int .u64 (cr : Int)], .pointer (some ⟨b, 0, none⟩)] w _
 go_enter Tryz.func147, Tryz.ntmps147
 go_wp2_with fail
 go_ret
 exact ⟨rfl, (Below.refl _ _).alloc (Nat.le_refl _) _⟩
def idxa (l : List Ac) (id : Nat) : Int := if at_ Ac.id id l < l.length then (at_ Ac.id id l : Int) else -1
theorem indexa_any (A : Option Addr) (l : List Ac) (n c B b id : Nat) (w : World) (hr : Rd w B A (rows Ac.cells l)) (hn : n = l.length) (hB : B ≤ w.heap.size) (hc : w.cell? ⟨b, 0, none⟩ = some (.int .u64 (id : Int))) (hnc : n ≤ c) (hbig : n ≤ 100) :
  Calls Tryz.prog 158 #[.slice A n c, .func (.func 147) #[] #[.pointer (some ⟨b, 0, none⟩)]] w (VE w (.int .i64 (idxa l id))) := by
 have hb := World.block_lt_of_cell? w _ hc
 by_cases h0 : n = 0
 ·
  have hz : idxa l id = -1 := by
   unfold idxa
   rw [if_neg (by omega)]
  rw [hz]
  subst h0
  clear hr hn hz hc hb
  go_enter Tryz.func158, Tryz.ntmps158
  go_wp2_with fail
  go_loop [8] (fun i => i = .int .i64 0) (fun _ => 0)
  case atStart => rfl
  case round =>
   obtain rfl := hrel
   go_wp2_with fail
   go_ret
   exact ⟨rfl, Below.refl _ _⟩
 have hlen := rows_len (C := Ac.cells) Ac.len l
 obtain ⟨g, o, rfl, hg, hx⟩ := (show _ from hr) (by intro e; rw [e] at hlen; simp at hlen; omega)
 clear hx hlen
 have HR := hid hr
 have HN := hid hn
 have HC := hid (fun W (hW : Below w.heap.size w W) => (hW.cell (p := ⟨b, 0, none⟩) hb).trans hc)
 have HZ := hid acSize
 have HNF : Hid (at_ Ac.id id l = l.length → idxa l id = -1) := hid fun e => by
  unfold idxa
  rw [if_neg (by omega)]
 have HF : Hid (∀ k, k < l.length → at_ Ac.id id l = k → idxa l id = (k : Int)) := hid fun k hk e => by
  unfold idxa
  rw [e, if_pos hk]
 generalize idxa l id = r at *
 clear hr hn hc
 go_enter Tryz.func158, Tryz.ntmps158
 go_wp2_with fail
 go_loopw [8] (fun i wr => ∃ k : Nat, k ≤ n ∧ i = .int .i64 (k : Int) ∧ Hid (k ≤ at_ Ac.id id l) ∧ Below w.heap.size w wr) (fun i _ => n - (intOf i).toNat)
 case atStart => exact ⟨0, by omega, rfl, hid (Nat.zero_le _), Below.refl _ _⟩
 case round =>
  obtain ⟨k, hk, rfl, HK, hbe⟩ := hrel
  have HBE := hid hbe
  by_cases hlt : k < n
  ·
   have hkl : k < l.length := by rw [← HN.out]; exact hlt
   have HRG := hid ((HR.out.below hbe hB).range Ac.len k hkl)
   have HC4 : Hid ((Ac.cells l[k]).length = 4) := hid (Ac.len _)
   by_cases he : Ac.id l[k] = id
   ·
    have HI := hid (isa_yes l[k] b wr (by rw [he]; exact HC.out wr hbe))
    have HAT := hid (HF.out k hkl (at_this Ac.id id l k HK.out hkl he))
    generalize Ac.cells l[k] = X at *
    clear hbe he
    go_wp2_with (first
     | (refine wpList_load_mid rfl 80 (.tmp 14) rfl g (o + k * 4) rfl X _ HRG.out Tryz.underlying80 rfl (by rw [HC4.out]; exact HZ.out) ?_)
     | (go_at_call 147; refine HI.out.mono ?_; rintro e w2 ⟨rfl, hb2⟩))
    go_ret
    rw [HAT.out]
    exact ⟨rfl, HBE.out.trans (hb2.mono HBE.out.size)⟩
   ·
    have HI := hid (isa_no l[k] id b wr (HC.out wr hbe) he)
    have HAT : Hid (k + 1 ≤ at_ Ac.id id l) := hid (by
     rcases Nat.lt_or_ge k (at_ Ac.id id l) with h | h
     ·
      omega
     ·
      have e : at_ Ac.id id l = k := Nat.le_antisymm h HK.out
      have h2 := at_here Ac.id id l (by rw [e]; exact hkl)
      simp only [e] at h2
      exact absurd h2 he)
    generalize Ac.cells l[k] = X at *
    clear hbe he
    go_wp2_with (first
     | (refine wpList_load_mid rfl 80 (.tmp 14) rfl g (o + k * 4) rfl X _ HRG.out Tryz.underlying80 rfl (by rw [HC4.out]; exact HZ.out) ?_)
     | (go_at_call 147; refine HI.out.mono ?_; rintro e w2 ⟨rfl, hb2⟩))
    exact ⟨⟨k + 1, by omega, by go_num, hid HAT.out, HBE.out.trans (hb2.mono HBE.out.size)⟩, by simp [intOf]; omega⟩
  ·
   obtain rfl : k = n := by omega
   have HAT := hid (HNF.out (by have := HK.out; have := at_le Ac.id id l; have := HN.out; omega))
   clear hbe
   go_wp2_with fail
   go_ret
   rw [HAT.out]
   exact ⟨rfl, HBE.out⟩
theorem firsta_no (A : Option Addr) (l : List Ac) (n c B b id : Nat) (w : World) (hr : Rd w B A (rows Ac.cells l)) (hn : n = l.length) (hB : B ≤ w.heap.size) (hc : w.cell? ⟨b, 0, none⟩ = some (.int .u64 (id : Int))) (hnc : n ≤ c) (hbig : n ≤ 100) (hno : ¬ at_ Ac.id id l < l.length) :
  Calls Tryz.prog 146 #[.slice A n c, .func (.func 147) #[] #[.pointer (some ⟨b, 0, none⟩)]] w (VE w (.pointer none)) := by
 have HI := hid (indexa_any A l n c B b id w hr hn hB hc hnc hbig)
 have e : idxa l id = -1 := by
  unfold idxa
  rw [if_neg hno]
 rw [e] at HI
 clear hr hn hc hno e
 go_enter Tryz.func146, Tryz.ntmps146
 go_wp2_with (go_at_call 158; refine HI.out.mono ?_; rintro e w2 ⟨rfl, hb2⟩)
 go_ret
 exact ⟨rfl, hb2⟩
theorem firsta_yes (g o : Nat) (l : List Ac) (n c B b id k : Nat) (w : World) (hr : Rd w B (some ⟨g, o, none⟩) (rows Ac.cells l)) (hn : n = l.length) (hB : B ≤ w.heap.size) (hc : w.cell? ⟨b, 0, none⟩ = some (.int .u64 (id : Int))) (hnc : n ≤ c) (hbig : n ≤ 100) (hk : at_ Ac.id id l = k) (hkn : k < n) :
  Calls Tryz.prog 146 #[.slice (some ⟨g, o, none⟩) n c, .func (.func 147) #[] #[.pointer (some ⟨b, 0, none⟩)]] w (VE w (.pointer (some ⟨g, o + k * 4, none⟩))) := by
 have HI := hid (indexa_any (some ⟨g, o, none⟩) l n c B b id w hr hn hB hc hnc hbig)
 have e : idxa l id = (k : Int) := by
  unfold idxa
  rw [hk, if_pos (by omega)]
 rw [e] at HI
 clear hr hn hc hk e
 go_enter Tryz.func146, Tryz.ntmps146
 go_wp2_with (go_at_call 158; refine HI.out.mono ?_; rintro e w2 ⟨rfl, hb2⟩)
 go_ret
 exact ⟨rfl, hb2⟩
theorem account_no (p : Nat) (va vt : Value) (S : Lg) (id : Nat) (w : World) (h : HasG w 96 p va vt S) (hno : ¬ S.fa id < S.A.length) :
  Calls Tryz.prog 127 #[.pointer (some ⟨p, 0, none⟩), .int .u64 (id : Int)] w (VE w (.pointer none)) := by
 obtain ⟨A, c, e, hnc, hrd⟩ := h.va_shape
 have hc0 := h.c0
 rw [e] at hc0
 have hw := h.wf.la
 have hp := h.box.lt
 have HF := hid (fun W (hW : Below w.heap.size w W) b (hb : W.cell? ⟨b, 0, none⟩ = some (.int .u64 (id : Int))) => firsta_no A S.A S.A.length c w.heap.size b id W (hrd.below hW (Nat.le_refl _)) rfl hW.size hb hnc (by omega) hno)
 generalize S.A.length = n at *
 clear h e hrd hno
 go_enter Tryz.func127, Tryz.ntmps127
 go_wp2_with (go_at_call 146; refine (HF.out _ ((Below.refl _ _).alloc (Nat.le_refl _) _) _ (by simp)).mono ?_; rintro e w2 ⟨rfl, hb2⟩)
 go_ret
 exact ⟨rfl, ((Below.refl _ _).alloc (Nat.le_refl _) _).trans (hb2.mono (by simp))⟩
theorem account_yes (p g k : Nat) (va vt : Value) (S : Lg) (id : Nat) (w : World) (h : HasG w 96 p va vt S) (hg : va.ownBlock = some g) (hk : S.fa id = k) (hkn : k < S.A.length) :
  Calls Tryz.prog 127 #[.pointer (some ⟨p, 0, none⟩), .int .u64 (id : Int)] w (VE w (.pointer (some ⟨g, k * 4, none⟩))) := by
 obtain ⟨A, c, e, hnc, hrd⟩ := h.va_shape
 obtain ⟨g', c', e', -, hg'⟩ := own_some h.accs (by omega : 0 < S.A.length)
 rw [hg] at hg'
 cases hg'
 rw [e'] at e
 simp only [Value.slice.injEq] at e
 obtain ⟨rfl, -, rfl⟩ := e
 have hc0 := h.c0
 rw [e'] at hc0
 have hw := h.wf.la
 have hp := h.box.lt
 have HF := hid (fun W (hW : Below w.heap.size w W) b (hb : W.cell? ⟨b, 0, none⟩ = some (.int .u64 (id : Int))) => firsta_yes g 0 S.A S.A.length c' w.heap.size b id k W (hrd.below hW (Nat.le_refl _)) rfl hW.size hb hnc (by omega) hk hkn)
 rw [Nat.zero_add] at HF
 generalize S.A.length = n at *
 clear h e' hrd hk hg
 go_enter Tryz.func127, Tryz.ntmps127
 go_wp2_with (go_at_call 146; refine (HF.out _ ((Below.refl _ _).alloc (Nat.le_refl _) _) _ (by simp)).mono ?_; rintro e w2 ⟨rfl, hb2⟩)
 go_ret
 exact ⟨rfl, ((Below.refl _ _).alloc (Nat.le_refl _) _).trans (hb2.mono (by simp))⟩
theorem ist_yes (x : Tr) (b : Nat) (w : World) (hc : w.cell? ⟨b, 0, none⟩ = some (.int .u64 (Tr.a x : Int))) : Calls Tryz.prog 150 #[.agg (Tr.cells x).toArray, .pointer (some ⟨b, 0, none⟩)] w (VE w (.bool true)) := by
 have hb := World.block_lt_of_cell? w _ hc
 obtain ⟨id, xb, xc, xd⟩ := x
 show Calls Tryz.prog 150 #[.agg #[.int .u64 (id : Int), .int .u64 (xb : Int), .int .u64 (xc : Int), .int .u64 (xd : Int)], .pointer (some ⟨b, 0, none⟩)] w _
 go_enter Tryz.func150, Tryz.ntmps150
 go_wp2_with fail
 go_ret
 exact ⟨rfl, (Below.refl _ _).alloc (Nat.le_refl _) _⟩
theorem ist_no (x : Tr) (id' : Nat) (b : Nat) (w : World) (hc : w.cell? ⟨b, 0, none⟩ = some (.int .u64 (id' : Int))) (hne : Tr.a x ≠ id') : Calls Tryz.prog 150 #[.agg (Tr.cells x).toArray, .pointer (some ⟨b, 0, none⟩)] w (VE w (.bool false)) := by
 have hb := World.block_lt_of_cell? w _ hc
 obtain ⟨id, xb, xc, xd⟩ := x
 have h1 : ((id : Int) == (id' : Int)) = false := beq_eq_false_iff_ne.2 (by intro e; apply hne; show id = id'; omega)
 clear hne
 show Calls Tryz.prog 150 #[.agg #[.int .u64 (id : Int), .int .u64 (xb : Int), .int .u64 (xc : Int), .int .u64 (xd : Int)], .pointer (some ⟨b, 0, none⟩)] w _
 go_enter Tryz.func150, Tryz.ntmps150
 go_wp2_with fail
 go_ret
 exact ⟨rfl, (Below.refl _ _).alloc (Nat.le_refl _) _⟩
def idxt (l : List Tr) (id : Nat) : Int := if at_ Tr.a id l < l.length then (at_ Tr.a id l : Int) else -1
theorem indext_any (A : Option Addr) (l : List Tr) (n c B b id : Nat) (w : World) (hr : Rd w B A (rows Tr.cells l)) (hn : n = l.length) (hB : B ≤ w.heap.size) (hc : w.cell? ⟨b, 0, none⟩ = some (.int .u64 (id : Int))) (hnc : n ≤ c) (hbig : n ≤ 100) :
  Calls Tryz.prog 159 #[.slice A n c, .func (.func 150) #[] #[.pointer (some ⟨b, 0, none⟩)]] w (VE w (.int .i64 (idxt l id))) := by
 have hb := World.block_lt_of_cell? w _ hc
 by_cases h0 : n = 0
 ·
  have hz : idxt l id = -1 := by
   unfold idxt
   rw [if_neg (by omega)]
  rw [hz]
  subst h0
  clear hr hn hz hc hb
  go_enter Tryz.func159, Tryz.ntmps159
  go_wp2_with fail
  go_loop [8] (fun i => i = .int .i64 0) (fun _ => 0)
  case atStart => rfl
  case round =>
   obtain rfl := hrel
   go_wp2_with fail
   go_ret
   exact ⟨rfl, Below.refl _ _⟩
 have hlen := rows_len (C := Tr.cells) Tr.len l
 obtain ⟨g, o, rfl, hg, hx⟩ := (show _ from hr) (by intro e; rw [e] at hlen; simp at hlen; omega)
 clear hx hlen
 have HR := hid hr
 have HN := hid hn
 have HC := hid (fun W (hW : Below w.heap.size w W) => (hW.cell (p := ⟨b, 0, none⟩) hb).trans hc)
 have HZ := hid trSize
 have HNF : Hid (at_ Tr.a id l = l.length → idxt l id = -1) := hid fun e => by
  unfold idxt
  rw [if_neg (by omega)]
 have HF : Hid (∀ k, k < l.length → at_ Tr.a id l = k → idxt l id = (k : Int)) := hid fun k hk e => by
  unfold idxt
  rw [e, if_pos hk]
 generalize idxt l id = r at *
 clear hr hn hc
 go_enter Tryz.func159, Tryz.ntmps159
 go_wp2_with fail
 go_loopw [8] (fun i wr => ∃ k : Nat, k ≤ n ∧ i = .int .i64 (k : Int) ∧ Hid (k ≤ at_ Tr.a id l) ∧ Below w.heap.size w wr) (fun i _ => n - (intOf i).toNat)
 case atStart => exact ⟨0, by omega, rfl, hid (Nat.zero_le _), Below.refl _ _⟩
 case round =>
  obtain ⟨k, hk, rfl, HK, hbe⟩ := hrel
  have HBE := hid hbe
  by_cases hlt : k < n
  ·
   have hkl : k < l.length := by rw [← HN.out]; exact hlt
   have HRG := hid ((HR.out.below hbe hB).range Tr.len k hkl)
   have HC4 : Hid ((Tr.cells l[k]).length = 4) := hid (Tr.len _)
   by_cases he : Tr.a l[k] = id
   ·
    have HI := hid (ist_yes l[k] b wr (by rw [he]; exact HC.out wr hbe))
    have HAT := hid (HF.out k hkl (at_this Tr.a id l k HK.out hkl he))
    generalize Tr.cells l[k] = X at *
    clear hbe he
    go_wp2_with (first
     | (refine wpList_load_mid rfl 82 (.tmp 14) rfl g (o + k * 4) rfl X _ HRG.out Tryz.underlying82 rfl (by rw [HC4.out]; exact HZ.out) ?_)
     | (go_at_call 150; refine HI.out.mono ?_; rintro e w2 ⟨rfl, hb2⟩))
    go_ret
    rw [HAT.out]
    exact ⟨rfl, HBE.out.trans (hb2.mono HBE.out.size)⟩
   ·
    have HI := hid (ist_no l[k] id b wr (HC.out wr hbe) he)
    have HAT : Hid (k + 1 ≤ at_ Tr.a id l) := hid (by
     rcases Nat.lt_or_ge k (at_ Tr.a id l) with h | h
     ·
      omega
     ·
      have e : at_ Tr.a id l = k := Nat.le_antisymm h HK.out
      have h2 := at_here Tr.a id l (by rw [e]; exact hkl)
      simp only [e] at h2
      exact absurd h2 he)
    generalize Tr.cells l[k] = X at *
    clear hbe he
    go_wp2_with (first
     | (refine wpList_load_mid rfl 82 (.tmp 14) rfl g (o + k * 4) rfl X _ HRG.out Tryz.underlying82 rfl (by rw [HC4.out]; exact HZ.out) ?_)
     | (go_at_call 150; refine HI.out.mono ?_; rintro e w2 ⟨rfl, hb2⟩))
    exact ⟨⟨k + 1, by omega, by go_num, hid HAT.out, HBE.out.trans (hb2.mono HBE.out.size)⟩, by simp [intOf]; omega⟩
  ·
   obtain rfl : k = n := by omega
   have HAT := hid (HNF.out (by have := HK.out; have := at_le Tr.a id l; have := HN.out; omega))
   clear hbe
   go_wp2_with fail
   go_ret
   rw [HAT.out]
   exact ⟨rfl, HBE.out⟩
theorem firstt_no (A : Option Addr) (l : List Tr) (n c B b id : Nat) (w : World) (hr : Rd w B A (rows Tr.cells l)) (hn : n = l.length) (hB : B ≤ w.heap.size) (hc : w.cell? ⟨b, 0, none⟩ = some (.int .u64 (id : Int))) (hnc : n ≤ c) (hbig : n ≤ 100) (hno : ¬ at_ Tr.a id l < l.length) :
  Calls Tryz.prog 149 #[.slice A n c, .func (.func 150) #[] #[.pointer (some ⟨b, 0, none⟩)]] w (VE w (.pointer none)) := by
 have HI := hid (indext_any A l n c B b id w hr hn hB hc hnc hbig)
 have e : idxt l id = -1 := by
  unfold idxt
  rw [if_neg hno]
 rw [e] at HI
 clear hr hn hc hno e
 go_enter Tryz.func149, Tryz.ntmps149
 go_wp2_with (go_at_call 159; refine HI.out.mono ?_; rintro e w2 ⟨rfl, hb2⟩)
 go_ret
 exact ⟨rfl, hb2⟩
theorem firstt_yes (g o : Nat) (l : List Tr) (n c B b id k : Nat) (w : World) (hr : Rd w B (some ⟨g, o, none⟩) (rows Tr.cells l)) (hn : n = l.length) (hB : B ≤ w.heap.size) (hc : w.cell? ⟨b, 0, none⟩ = some (.int .u64 (id : Int))) (hnc : n ≤ c) (hbig : n ≤ 100) (hk : at_ Tr.a id l = k) (hkn : k < n) :
  Calls Tryz.prog 149 #[.slice (some ⟨g, o, none⟩) n c, .func (.func 150) #[] #[.pointer (some ⟨b, 0, none⟩)]] w (VE w (.pointer (some ⟨g, o + k * 4, none⟩))) := by
 have HI := hid (indext_any (some ⟨g, o, none⟩) l n c B b id w hr hn hB hc hnc hbig)
 have e : idxt l id = (k : Int) := by
  unfold idxt
  rw [hk, if_pos (by omega)]
 rw [e] at HI
 clear hr hn hc hk e
 go_enter Tryz.func149, Tryz.ntmps149
 go_wp2_with (go_at_call 159; refine HI.out.mono ?_; rintro e w2 ⟨rfl, hb2⟩)
 go_ret
 exact ⟨rfl, hb2⟩
theorem transfer_no (p : Nat) (va vt : Value) (S : Lg) (id : Nat) (w : World) (h : HasG w 96 p va vt S) (hno : ¬ S.ft id < S.T.length) :
  Calls Tryz.prog 133 #[.pointer (some ⟨p, 0, none⟩), .int .u64 (id : Int)] w (VE w (.pointer none)) := by
 obtain ⟨A, c, e, hnc, hrd⟩ := h.vt_shape
 have hc0 := h.c1
 rw [e] at hc0
 have hw := h.wf.lt
 have hp := h.box.lt
 have HF := hid (fun W (hW : Below w.heap.size w W) b (hb : W.cell? ⟨b, 0, none⟩ = some (.int .u64 (id : Int))) => firstt_no A S.T S.T.length c w.heap.size b id W (hrd.below hW (Nat.le_refl _)) rfl hW.size hb hnc (by omega) hno)
 generalize S.T.length = n at *
 clear h e hrd hno
 go_enter Tryz.func133, Tryz.ntmps133
 go_wp2_with (go_at_call 149; refine (HF.out _ ((Below.refl _ _).alloc (Nat.le_refl _) _) _ (by simp)).mono ?_; rintro e w2 ⟨rfl, hb2⟩)
 go_ret
 exact ⟨rfl, ((Below.refl _ _).alloc (Nat.le_refl _) _).trans (hb2.mono (by simp))⟩
theorem transfer_yes (p g k : Nat) (va vt : Value) (S : Lg) (id : Nat) (w : World) (h : HasG w 96 p va vt S) (hg : vt.ownBlock = some g) (hk : S.ft id = k) (hkn : k < S.T.length) :
  Calls Tryz.prog 133 #[.pointer (some ⟨p, 0, none⟩), .int .u64 (id : Int)] w (VE w (.pointer (some ⟨g, k * 4, none⟩))) := by
 obtain ⟨A, c, e, hnc, hrd⟩ := h.vt_shape
 obtain ⟨g', c', e', -, hg'⟩ := own_some h.trs (by omega : 0 < S.T.length)
 rw [hg] at hg'
 cases hg'
 rw [e'] at e
 simp only [Value.slice.injEq] at e
 obtain ⟨rfl, -, rfl⟩ := e
 have hc0 := h.c1
 rw [e'] at hc0
 have hw := h.wf.lt
 have hp := h.box.lt
 have HF := hid (fun W (hW : Below w.heap.size w W) b (hb : W.cell? ⟨b, 0, none⟩ = some (.int .u64 (id : Int))) => firstt_yes g 0 S.T S.T.length c' w.heap.size b id k W (hrd.below hW (Nat.le_refl _)) rfl hW.size hb hnc (by omega) hk hkn)
 rw [Nat.zero_add] at HF
 generalize S.T.length = n at *
 clear h e' hrd hk hg
 go_enter Tryz.func133, Tryz.ntmps133
 go_wp2_with (go_at_call 149; refine (HF.out _ ((Below.refl _ _).alloc (Nat.le_refl _) _) _ (by simp)).mono ?_; rintro e w2 ⟨rfl, hb2⟩)
 go_ret
 exact ⟨rfl, ((Below.refl _ _).alloc (Nat.le_refl _) _).trans (hb2.mono (by simp))⟩
end Go.Proofs.YtgednnjmcjhfmaaGreatDoor
namespace Go.Proofs.YtgednnjmcjhfmaaGreatDoor
open Go.RowKit
set_option maxHeartbeats 80000000
section
variable {w0 w w' : World} {X p Y q : Nat} {S S' T T' : Lg} {P : Program} {f : FuncId} {args : Array Value} {v : Ending}
end

/-! ### what stays true -/
def sumB (id : Nat) (l : List Tr) : Nat := (l.map fun t => if t.b = id then t.d else 0).sum
def sumC (id : Nat) (l : List Tr) : Nat := (l.map fun t => if t.c = id then t.d else 0).sum
theorem sumB_snoc (id : Nat) (l : List Tr) (t : Tr) : sumB id (l ++ [t]) = sumB id l + if t.b = id then t.d else 0 := by simp [sumB]
theorem sumC_snoc (id : Nat) (l : List Tr) (t : Tr) : sumC id (l ++ [t]) = sumC id l + if t.c = id then t.d else 0 := by simp [sumC]
theorem sum_zero {l : List Tr} {p : Tr → Prop} [DecidablePred p] (h : ∀ t ∈ l, ¬ p t) : (l.map fun t => if p t then t.d else 0).sum = 0 := by
 induction l with
 | nil => rfl
 | cons x r ih => rw [List.map_cons, List.sum_cons, ih (fun t ht => h t (by simp [ht])), if_neg (h x (by simp))]
structure Lg.Good (S : Lg) : Prop where
 ia : ∀ x ∈ S.A, x.id ≠ 0
 it : ∀ t ∈ S.T, t.a ≠ 0
 na : ∀ i j (hi : i < S.A.length) (hj : j < S.A.length), S.A[i].id = S.A[j].id → i = j
 nt : ∀ i j (hi : i < S.T.length) (hj : j < S.T.length), S.T[i].a = S.T[j].a → i = j
 fl : ∀ x ∈ S.A, x.flags = 1 → x.deb ≤ x.cre
 et : ∀ t ∈ S.T, S.fa t.b < S.A.length ∧ S.fa t.c < S.A.length
 sb : ∀ x ∈ S.A, x.deb = sumB x.id S.T
 sc : ∀ x ∈ S.A, x.cre = sumC x.id S.T
theorem Lg.nil_good : Lg.nil.Good := ⟨by simp [Lg.nil], by simp [Lg.nil], by simp [Lg.nil], by simp [Lg.nil], by simp [Lg.nil], by simp [Lg.nil], by simp [Lg.nil], by simp [Lg.nil]⟩
theorem at_some {α : Type} (key : α → Nat) (id : Nat) (l : List α) (x : α) (hx : x ∈ l) (h : key x = id) : at_ key id l < l.length := by
 refine List.findIdx_lt_length_of_exists ⟨x, hx, ?_⟩
 simp [h]
theorem at_iff {S : Lg} (h : S.Good) (id j : Nat) (hj : j < S.A.length) : S.A[j].id = id ↔ j = S.fa id := by
 constructor
 ·
  intro e
  have h1 : S.fa id < S.A.length := at_some Ac.id id S.A S.A[j] (List.getElem_mem hj) e
  have h2 := at_here Ac.id id S.A h1
  exact h.na j _ hj h1 (by rw [e]; exact h2.symm)
 ·
  intro e
  subst e
  exact at_here Ac.id id S.A hj
theorem ja_zero {S : Lg} {x : Ac} (h : S.ja x = 0) : x.id ≠ 0 ∧ ¬ S.fa x.id < S.A.length ∧ ¬ 1 < x.flags ∧ S.A.length ≠ 8 := by
 unfold Lg.ja at h
 by_cases h0 : x.id = 0
 ·
  rw [if_pos h0] at h; omega
 rw [if_neg h0] at h
 by_cases h1 : S.fa x.id < S.A.length
 ·
  rw [if_pos h1] at h; omega
 rw [if_neg h1] at h
 by_cases h2 : 1 < x.flags
 ·
  rw [if_pos h2] at h; omega
 rw [if_neg h2] at h
 by_cases h3 : S.A.length = 8
 ·
  rw [if_pos h3] at h; omega
 exact ⟨h0, h1, h2, h3⟩
theorem at_app {α : Type} (key : α → Nat) (id : Nat) (l m : List α) (h : at_ key id l < l.length) : at_ key id (l ++ m) = at_ key id l := by
 have h1 := at_here key id l h
 refine at_this key id (l ++ m) _ ?_ (by rw [List.length_append]; omega) (by rw [List.getElem_append_left h]; exact h1)
 rcases Nat.lt_or_ge (at_ key id (l ++ m)) (at_ key id l) with h2 | h2
 ·
  have h3 := at_here key id (l ++ m) (by rw [List.length_append]; omega)
  rw [List.getElem_append_left (by omega)] at h3
  exact absurd h3 (at_before key id l _ h2 (by omega))
 ·
  exact h2
theorem Lg.opn_good {S : Lg} (h : S.Good) (x : Ac) (hd : x.deb = 0) (hc : x.cre = 0) : (S.opn x).Good := by
 unfold Lg.opn
 split
 ·
  rename_i hj
  obtain ⟨h0, h1, _, _⟩ := ja_zero hj
  have hne : ∀ y ∈ S.A, y.id ≠ x.id := fun y hy e => h1 (at_some Ac.id x.id S.A y hy e)
  have hmem : ∀ i (hi : i < (S.A ++ [x]).length), (∃ h : i < S.A.length, (S.A ++ [x])[i] = S.A[i]) ∨ (i = S.A.length ∧ (S.A ++ [x])[i] = x) := by
   intro i hi
   by_cases h : i < S.A.length
   ·
    exact .inl ⟨h, List.getElem_append_left h⟩
   ·
    have e : i = S.A.length := by simp at hi; omega
    subst e
    exact .inr ⟨rfl, by simp⟩
  have hz : ∀ t ∈ S.T, t.b ≠ x.id ∧ t.c ≠ x.id := fun t ht => by
   obtain ⟨e1, e2⟩ := h.et t ht
   have k1 := at_here Ac.id t.b S.A e1
   have k2 := at_here Ac.id t.c S.A e2
   refine ⟨fun e => ?_, fun e => ?_⟩
   ·
    exact hne _ (List.getElem_mem e1) (k1.trans e)
   ·
    exact hne _ (List.getElem_mem e2) (k2.trans e)
  refine ⟨?_, h.it, ?_, h.nt, ?_, ?_, ?_, ?_⟩
  ·
   intro y hy
   rcases List.mem_append.1 hy with hy | hy
   ·
    exact h.ia y hy
   ·
    rw [List.mem_singleton.1 hy]; exact h0
  ·
   intro i j hi hj e
   rcases hmem i hi with ⟨hi2, ei⟩ | ⟨hi2, ei⟩
   ·
    rcases hmem j hj with ⟨hj2, ej⟩ | ⟨hj2, ej⟩
    ·
     simp only [ei, ej] at e
     exact h.na i j hi2 hj2 e
    ·
     simp only [ei, ej] at e
     exact absurd e (hne _ (List.getElem_mem hi2))
   ·
    rcases hmem j hj with ⟨hj2, ej⟩ | ⟨hj2, ej⟩
    ·
     simp only [ei, ej] at e
     exact absurd e.symm (hne _ (List.getElem_mem hj2))
    ·
     omega
  ·
   intro y hy
   rcases List.mem_append.1 hy with hy | hy
   ·
    exact h.fl y hy
   ·
    rw [List.mem_singleton.1 hy, hd, hc]
    intro _
    exact Nat.le_refl _
  ·
   intro t ht
   obtain ⟨e1, e2⟩ := h.et t ht
   refine ⟨?_, ?_⟩
   ·
    show at_ Ac.id t.b (S.A ++ [x]) < (S.A ++ [x]).length
    rw [at_app Ac.id t.b S.A [x] e1, List.length_append]
    have : at_ Ac.id t.b S.A < S.A.length := e1
    omega
   ·
    show at_ Ac.id t.c (S.A ++ [x]) < (S.A ++ [x]).length
    rw [at_app Ac.id t.c S.A [x] e2, List.length_append]
    have : at_ Ac.id t.c S.A < S.A.length := e2
    omega
  ·
   intro y hy
   rcases List.mem_append.1 hy with hy | hy
   ·
    exact h.sb y hy
   ·
    rw [List.mem_singleton.1 hy, hd]
    exact (sum_zero (p := fun t => t.b = x.id) (fun t ht => (hz t ht).1)).symm
  ·
   intro y hy
   rcases List.mem_append.1 hy with hy | hy
   ·
    exact h.sc y hy
   ·
    rw [List.mem_singleton.1 hy, hc]
    exact (sum_zero (p := fun t => t.c = x.id) (fun t ht => (hz t ht).2)).symm
 ·
  exact h
theorem Lg.mov_good {S : Lg} (h : S.Good) (t : Tr) : (S.mov t).Good := by
 unfold Lg.mov
 split
 ·
  rename_i hj
  have hm := Lg.moves hj
  have hlen := S.paid_len t
  have hnt : ∀ y ∈ S.T, y.a ≠ t.a := fun y hy e => by
   have h1 : S.ft t.a < S.T.length := at_some Tr.a t.a S.T y hy e
   have := hm.new
   omega
  have hid : ∀ i (hi : i < (S.paid t).length), (S.paid t)[i].id = (S.A[i]'(by rw [hlen] at hi; exact hi)).id := by
   intro i hi
   have hi2 : i < S.A.length := by rw [hlen] at hi; exact hi
   rw [Lg.paid_get hm i hi2]
   split
   ·
    rfl
   ·
    split <;> rfl
  have hdeb : ∀ i (hi : i < (S.paid t).length), (S.paid t)[i].deb = (S.A[i]'(by rw [hlen] at hi; exact hi)).deb + if t.b = (S.A[i]'(by rw [hlen] at hi; exact hi)).id then t.d else 0 := by
   intro i hi
   have hi2 : i < S.A.length := by rw [hlen] at hi; exact hi
   have hk := at_iff h t.b i hi2
   rw [Lg.paid_get hm i hi2]
   by_cases e1 : i = S.fa t.b
   ·
    rw [if_pos e1, if_pos (hk.2 e1).symm]
    rfl
   ·
    have e2 : ¬ t.b = S.A[i].id := fun e => e1 (hk.1 e.symm)
    simp only [if_neg e1, if_neg e2]
    split <;> rfl
  have hcre : ∀ i (hi : i < (S.paid t).length), (S.paid t)[i].cre = (S.A[i]'(by rw [hlen] at hi; exact hi)).cre + if t.c = (S.A[i]'(by rw [hlen] at hi; exact hi)).id then t.d else 0 := by
   intro i hi
   have hi2 : i < S.A.length := by rw [hlen] at hi; exact hi
   have hk := at_iff h t.c i hi2
   rw [Lg.paid_get hm i hi2]
   by_cases e2 : i = S.fa t.c
   ·
    have e1 : ¬ i = S.fa t.b := fun e => hm.ne (by omega)
    have e3 : t.c = S.A[i].id := (hk.2 e2).symm
    simp only [if_neg e1, if_pos e2, if_pos e3]
    rfl
   ·
    have e3 : ¬ t.c = S.A[i].id := fun e => e2 (hk.1 e.symm)
    simp only [if_neg e2, if_neg e3]
    split <;> rfl
  have hfa : ∀ id, at_ Ac.id id (S.paid t) = S.fa id := by
   intro id
   have h1 : at_ Ac.id id (S.paid t) ≤ (S.paid t).length := at_le _ _ _
   rcases Nat.lt_or_ge (at_ Ac.id id (S.paid t)) (S.paid t).length with h2 | h2
   ·
    have h3 := at_here Ac.id id (S.paid t) h2
    rw [hid _ h2] at h3
    exact (at_iff h id _ (by omega)).1 h3
   ·
    have h3 : S.fa id ≤ S.A.length := at_le Ac.id id S.A
    rcases Nat.lt_or_ge (S.fa id) S.A.length with h4 | h4
    ·
     have h5 := at_here Ac.id id S.A h4
     have h6 := at_before Ac.id id (S.paid t) (at_ Ac.id id S.A) (by have : at_ Ac.id id S.A < S.A.length := h4; omega) (by have : at_ Ac.id id S.A < S.A.length := h4; omega)
     rw [hid] at h6
     exact absurd h5 h6
    ·
     omega
  refine ⟨?_, ?_, ?_, ?_, ?_, ?_, ?_, ?_⟩
  ·
   intro y hy
   obtain ⟨i, hi, rfl⟩ := List.getElem_of_mem hy
   rw [hid i hi]
   exact h.ia _ (List.getElem_mem _)
  ·
   intro y hy
   rcases List.mem_append.1 hy with hy | hy
   ·
    exact h.it y hy
   ·
    rw [List.mem_singleton.1 hy]; exact hm.id
  ·
   intro i j hi hj e
   simp only [hid i hi, hid j hj] at e
   exact h.na i j _ _ e
  ·
   intro i j hi hj e
   simp only [List.length_append, List.length_cons, List.length_nil] at hi hj
   by_cases hi2 : i < S.T.length
   ·
    by_cases hj2 : j < S.T.length
    ·
     simp only [List.getElem_append_left hi2, List.getElem_append_left hj2] at e
     exact h.nt i j hi2 hj2 e
    ·
     have ej : j = S.T.length := by omega
     subst ej
     simp only [List.getElem_append_left hi2] at e
     simp at e
     exact absurd e (hnt _ (List.getElem_mem hi2))
   ·
    have ei : i = S.T.length := by omega
    subst ei
    by_cases hj2 : j < S.T.length
    ·
     simp only [List.getElem_append_left hj2] at e
     simp at e
     exact absurd e.symm (hnt _ (List.getElem_mem hj2))
    ·
     omega
  ·
   intro y hy hf
   obtain ⟨i, hi, rfl⟩ := List.getElem_of_mem hy
   have hi2 : i < S.A.length := by rw [hlen] at hi; exact hi
   have ho := h.fl _ (List.getElem_mem hi2)
   have hd := hdeb i hi
   have hc := hcre i hi
   have hfl : (S.paid t)[i].flags = S.A[i].flags := by
    rw [Lg.paid_get hm i hi2]
    split
    ·
     rfl
    ·
     split <;> rfl
   rw [hfl] at hf
   have hk := at_iff h t.b i hi2
   by_cases e1 : t.b = S.A[i].id
   ·
    rw [if_pos e1] at hd
    have ei := hk.1 e1.symm
    have hx := hm.flag
    simp only [← ei] at hx
    have : ¬ S.A[i].cre < S.A[i].deb + t.d := fun q => hx ⟨hf, q⟩
    rw [hd, hc]
    omega
   ·
    rw [if_neg e1] at hd
    have := ho hf
    rw [hd, hc]
    omega
  ·
   intro y hy
   rcases List.mem_append.1 hy with hy | hy
   ·
    obtain ⟨e1, e2⟩ := h.et y hy
    refine ⟨?_, ?_⟩
    ·
     show at_ Ac.id y.b (S.paid t) < (S.paid t).length
     rw [hfa, hlen]; exact e1
    ·
     show at_ Ac.id y.c (S.paid t) < (S.paid t).length
     rw [hfa, hlen]; exact e2
   ·
    rw [List.mem_singleton.1 hy]
    refine ⟨?_, ?_⟩
    ·
     show at_ Ac.id t.b (S.paid t) < (S.paid t).length
     rw [hfa, hlen]; exact hm.hb
    ·
     show at_ Ac.id t.c (S.paid t) < (S.paid t).length
     rw [hfa, hlen]; exact hm.hc
  ·
   intro y hy
   obtain ⟨i, hi, rfl⟩ := List.getElem_of_mem hy
   have hi2 : i < S.A.length := by rw [hlen] at hi; exact hi
   rw [hdeb i hi, hid i hi, sumB_snoc, h.sb _ (List.getElem_mem hi2)]
  ·
   intro y hy
   obtain ⟨i, hi, rfl⟩ := List.getElem_of_mem hy
   have hi2 : i < S.A.length := by rw [hlen] at hi; exact hi
   rw [hcre i hi, hid i hi, sumC_snoc, h.sc _ (List.getElem_mem hi2)]
 ·
  exact h
theorem runL_good {α : Type} {f : Lg → α → Lg × List UInt8} {ok : α → Prop} (hf : ∀ S x, S.Good → ok x → (f S x).1.Good) {S : Lg} (hS : S.Good) : ∀ (l : List α), (∀ x ∈ l, ok x) → (runL f S l).1.Good := by
 intro l
 have key : ∀ (l : List α) (r : Lg × List UInt8), r.1.Good → (∀ x ∈ l, ok x) → (l.foldl (fun r x => ((f r.1 x).1, r.2 ++ (f r.1 x).2)) r).1.Good := by
  intro l
  induction l with
  | nil => intro r hr _; exact hr
  | cons x t ih => intro r hr hl; exact ih _ (hf _ _ hr (hl x (by simp))) (fun y hy => hl y (by simp [hy]))
 exact key l (S, [0]) hS
theorem Lg.doo_good {S : Lg} (h : S.Good) (op : Int) (s : List UInt8) : (S.doo op s).1.Good := by
 have key : ∀ {α : Type} (f : Lg → α → Lg × List UInt8) (ok : α → Prop) (r : List α × Bool), (∀ S x, S.Good → ok x → (f S x).1.Good) → (∀ x ∈ r.1, ok x) → (eachL f S r).1.Good := by
  intro α f ok r hf hr
  unfold eachL
  split
  ·
   exact runL_good hf h r.1 hr
  ·
   exact h
 unfold Lg.doo
 split
 ·
  exact key mka (fun x => x.deb = 0 ∧ x.cre = 0) _ (fun S x hS hx => Lg.opn_good hS x hx.1 hx.2) (takL_all (fun p => ⟨rfl, rfl⟩))
 split
 ·
  exact key mkt (fun _ => True) _ (fun S x hS _ => Lg.mov_good hS x) (fun _ _ => trivial)
 split
 ·
  exact key tela (fun _ => True) _ (fun S x hS _ => hS) (fun _ _ => trivial)
 split
 ·
  exact key telt (fun _ => True) _ (fun S x hS _ => hS) (fun _ _ => trivial)
 ·
  exact h
/-! ### what is asked again -/
theorem one_t (x : Tr) (hx : x.ok) : putL trB [x] = (trL x, 0) ∧ takL 32 decT (trL x) = ([x], true) := by
 refine ⟨by simp [putL, trB, trL], ?_⟩
 have h := takL_flat 32 (by omega) decT (fun x => (trB x).getD []) [x] (by intro y hy; exact trL_len y) (by simp) (by simp)
 rw [List.flatMap_cons, List.flatMap_nil, List.append_nil] at h
 show takL 32 decT ((trB x).getD []) = _
 rw [h]
 simp only [List.map_cons, List.map_nil]
 rw [decT_le x hx]
end Go.Proofs.YtgednnjmcjhfmaaGreatDoor
