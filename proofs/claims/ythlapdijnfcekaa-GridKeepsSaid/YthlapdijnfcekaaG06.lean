/-
  A disk in memory: its cells, its sectors' cells, its writes' cells; what a call leaves alone.
-/
import Derived.Test.YthlapdijnfcekaaG05
import Derived.Test.YthlapdijnfcekaaG01
import Derived.Deep.MidRow
import Derived.Deep.AppendLies
import Derived.Lib.BufferWrite
namespace Go.Proofs.Ythlapdijnfcekaa
open Go.RowKit

/-- of the blocks that were there only those in fp may have turned -/
structure Fr (w w' : World) (fp : List Nat) : Prop where
  os : w'.os = w.os
  tape : w'.tape = w.tape
  output : w'.output = w.output
  size : w.heap.size ≤ w'.heap.size
  block : ∀ k, k < w.heap.size → k ∉ fp → w'.heap[k]? = w.heap[k]?
section
variable {w w' w'' : World} {fp fq : List Nat}
theorem Fr.refl (w : World) (fp : List Nat) : Fr w w fp := ⟨rfl, rfl, rfl, Nat.le_refl _, fun _ _ _ => rfl⟩
theorem Fr.trans (h : Fr w w' fp) (k : Fr w' w'' fq) (hq : ∀ b, b ∈ fq → b < w.heap.size → b ∈ fp) : Fr w w'' fp :=
  ⟨k.os.trans h.os, k.tape.trans h.tape, k.output.trans h.output, Nat.le_trans h.size k.size, fun b hb hn =>
    (k.block b (Nat.lt_of_lt_of_le hb h.size) (fun hm => hn (hq b hm hb))).trans (h.block b hb hn)⟩
theorem Fr.mono (h : Fr w w' fp) (hq : ∀ b, b ∈ fp → b ∈ fq) : Fr w w' fq := ⟨h.os, h.tape, h.output, h.size, fun b hb hn => h.block b hb (fun hm => hn (hq b hm))⟩
theorem Fr.drew (h : Fr w w' fp) : Fr w w'.drew fp := ⟨h.os, h.tape, h.output, h.size, h.block⟩
theorem Fr.alloc (h : Fr w w' fp) (o : Obj) : Fr w (w'.alloc o) fp :=
  h.trans (fq := []) ⟨rfl, rfl, rfl, by simp, fun k hk _ => Below.heap_alloc _ _ _ hk⟩ (by simp)
theorem Fr.setCell (h : Fr w w' fp) {p : Addr} (hp : p.block ∈ fp ∨ w.heap.size ≤ p.block) (u : Value) : Fr w (w'.setCell p u) fp :=
  h.trans (fq := [p.block]) ⟨rfl, rfl, rfl, by simp [World.setCell], fun k _ hk => Below.heap_setCell _ _ _ _ (by simpa using hk)⟩ (by simp; intro hb; rcases hp with hp | hp <;> first | exact hp | omega)
theorem Fr.grown {row : Option Nat} (h : Fr w w' fp) (hg : w'.grownBy w'' row) (hr : ∀ k, row = some k → k ∈ fp ∨ w.heap.size ≤ k) : Fr w w'' fp :=
  h.trans (fq := row.toList) ⟨hg.os, hg.tape, hg.output, hg.size, fun k hk hn => hg.block k hk (fun e => hn (by simp [← e]))⟩ (by
    intro b hb hlt
    simp at hb
    rcases hr b hb with h | h
    · exact h
    · omega)
theorem Fr.below {B : Nat} (h : Fr w w' fp) (hB : ∀ b ∈ fp, B ≤ b) (hs : B ≤ w.heap.size) : Below B w w' :=
  ⟨h.os, h.tape, h.output, h.size, fun k hk => h.block k (by omega) (fun hm => by have := hB k hm; omega)⟩
theorem Fr.row (h : Fr w w' fp) {g : Nat} {e : TypeId} {cs : List Value} (hr : Row w g e cs) (hg : g ∉ fp) : Row w' g e cs := (h.block g hr.lt hg).trans hr
theorem Fr.own (h : Fr w w' fp) {B : Nat} {e : TypeId} {s : Nat} {v : Value} {n : Nat} {xs : List Value} (ho : w.ownsRow B e s v n xs) (hg : ∀ g, v.ownBlock = some g → g ∉ fp) : w'.ownsRow B e s v n xs := by
  refine ⟨ho.1, ?_⟩
  rcases ho.2 with hn | ⟨g, cap, cur, rfl, hb, hgg, rest⟩
  · exact .inl hn
  · refine .inr ⟨g, cap, cur, rfl, hb, ?_, rest⟩
    rw [h.block g (Array.getElem?_eq_some_iff.1 hgg).1 (hg g rfl)]
    exact hgg
theorem Fr.rd (h : Fr w w' fp) {B : Nat} {A : Option Addr} {xs : List Value} (hr : Rd w B A xs) (hB : B ≤ w.heap.size) (hf : ∀ b ∈ fp, B ≤ b) : Rd w' B A xs := fun hn => by
  obtain ⟨g, o, e, hg, hc⟩ := hr hn
  exact ⟨g, o, e, hg, fun j u hu => (World.cell?_of_block (w := w) (a := ⟨g, o + j, none⟩) (h.block g (by omega) (fun hm => by have := hf g hm; omega))).trans (hc j u hu)⟩
/-- what reads in blocks that have not turned -/
theorem Fr.rd' (h : Fr w w' fp) {g o B : Nat} {xs : List Value} (hr : Rd w B (some ⟨g, o, none⟩) xs) (hg : g ∉ fp) (hlt : B ≤ w.heap.size := by exact Nat.le_refl _) : Rd w' B (some ⟨g, o, none⟩) xs := fun hn => by
  obtain ⟨g0, o0, e, hgb, hc⟩ := hr hn
  cases e
  exact ⟨g, o, rfl, hgb, fun j u hu => (World.cell?_of_block (w := w) (a := ⟨g, o + j, none⟩) (h.block g (by omega) hg)).trans (hc j u hu)⟩
end

theorem Row.at_ {w : World} {g : Nat} {e : TypeId} {cs : List Value} (h : Row w g e cs) (i : Nat) (u : Value) (hu : cs[i]? = some u) : w.cell? ⟨g, i, none⟩ = some u := (h.cell i).trans hu
/-- the disk S lies at p; its sectors at gs; its writes are owned by vw -/
structure HasD (w : World) (p gs : Nat) (vw : Value) (S : Sp) : Prop where
  disk : Row w p 54 [.slice (some ⟨gs, 0, none⟩) S.secs.length S.secs.length, vw, .bool S.on, .int .i64 (S.left : Int), .int .i64 (S.count : Int)]
  secs : Row w gs 72 (secRows S.secs (newest S.way)).flatten
  wrs : w.ownsRow 0 82 385 vw S.way.length (wrRows S.way).flatten
  ne1 : p ≠ gs
  ne2 : vw.ownBlock ≠ some p
  ne3 : vw.ownBlock ≠ some gs
  wf : S.WF
/-- the blocks that it has -/
def fpD (p gs : Nat) (vw : Value) : List Nat := p :: gs :: vw.ownBlock.toList
theorem HasD.fr {w w' : World} {p gs : Nat} {vw : Value} {S : Sp} {fp : List Nat} (h : HasD w p gs vw S) (hf : Fr w w' fp) (hd : ∀ b ∈ fpD p gs vw, b ∉ fp) : HasD w' p gs vw S :=
  ⟨hf.row h.disk (hd p (by simp [fpD])), hf.row h.secs (hd gs (by simp [fpD])), hf.own h.wrs (fun g hg => hd g (by simp [fpD, hg])), h.ne1, h.ne2, h.ne3, h.wf⟩
theorem HasD.lt {w : World} {p gs : Nat} {vw : Value} {S : Sp} (h : HasD w p gs vw S) : ∀ b ∈ fpD p gs vw, b < w.heap.size := by
  intro b hb
  simp only [fpD, List.mem_cons, Option.mem_toList] at hb
  rcases hb with rfl | rfl | hb
  · exact h.disk.lt
  · exact h.secs.lt
  · exact (h.wrs.lt b hb).2
section
variable {w : World} {p gs : Nat} {vw : Value} {S : Sp}
theorem HasD.c0 (h : HasD w p gs vw S) : w.cell? ⟨p, 0, none⟩ = some (.slice (some ⟨gs, 0, none⟩) S.secs.length S.secs.length) := h.disk.at_ 0 _ rfl
theorem HasD.c1 (h : HasD w p gs vw S) : w.cell? ⟨p, 1, none⟩ = some vw := h.disk.at_ 1 _ rfl
theorem HasD.c2 (h : HasD w p gs vw S) : w.cell? ⟨p, 2, none⟩ = some (.bool S.on) := h.disk.at_ 2 _ rfl
theorem HasD.c3 (h : HasD w p gs vw S) : w.cell? ⟨p, 3, none⟩ = some (.int .i64 (S.left : Int)) := h.disk.at_ 3 _ rfl
theorem HasD.c4 (h : HasD w p gs vw S) : w.cell? ⟨p, 4, none⟩ = some (.int .i64 (S.count : Int)) := h.disk.at_ 4 _ rfl
theorem HasD.f (h : HasD w p gs vw S) (i : Nat) : w.frozen? ⟨p, i, none⟩ = false := h.disk.frozen i
theorem HasD.drew (h : HasD w p gs vw S) : HasD w.drew p gs vw S := ⟨h.disk, h.secs, h.wrs, h.ne1, h.ne2, h.ne3, h.wf⟩
/-- fields on, left, count are turned -/
theorem HasD.put {w' : World} {o2 : Bool} {l c : Nat} (h : HasD w p gs vw S) (hf : Fr w w' [p]) (hd : Row w' p 54 [.slice (some ⟨gs, 0, none⟩) S.secs.length S.secs.length, vw, .bool o2, .int .i64 (l : Int), .int .i64 (c : Int)])
    (hl : l ≤ 9223372036854775807) (hc : S.way.length ≤ c) : HasD w' p gs vw { S with on := o2, left := l, count := c } :=
  ⟨hd, hf.row h.secs (by simpa using Ne.symm h.ne1), hf.own h.wrs (fun g hg => by simp; rintro rfl; exact h.ne2 hg), h.ne1, h.ne2, h.ne3, ⟨h.wf.len, h.wf.way, h.wf.few, hl, hc⟩⟩
end
end Go.Proofs.Ythlapdijnfcekaa
