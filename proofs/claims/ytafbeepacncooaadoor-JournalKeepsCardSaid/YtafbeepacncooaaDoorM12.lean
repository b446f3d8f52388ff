/-
  A disk in memory: its cells, its sectors' cells, its writes' cells; what a call leaves alone.
-/
import Derived.Test.YtafbeepacncooaaDoorM07
import Derived.Test.YtafbeepacncooaaDoorM01
import Derived.Deep.MidRow
import Derived.Deep.AppendLies
import Derived.Lib.BufferWrite
import Derived.Test.YtafbeepacncooaaDoorRows
namespace Go.Proofs.YtafbeepacncooaaDoor
open Go.RowKit

/-- of the blocks that were there only those in fp may have turned -/
structure Fr (w w' : World) (fp : List Nat) : Prop where
  os : w'.os = w.os
  tape : w'.tape = w.tape
  output : w'.output = w.output
  size : w.heap.size ≤ w'.heap.size
  block : ∀ k, k < w.heap.size → k ∉ fp → w'.heap[k]? = w.heap[k]?
section
variable {w w' w'' : World} {fp fq : List Nat}
theorem Fr.refl (w : World) (fp : List Nat) : Fr w w fp := ⟨rfl, rfl, rfl, Nat.le_refl _, fun _ _ _ => rfl⟩
theorem Fr.trans (h : Fr w w' fp) (k : Fr w' w'' fq) (hq : ∀ b, b ∈ fq → b < w.heap.size → b ∈ fp) : Fr w w'' fp :=
  ⟨k.os.trans h.os, k.tape.trans h.tape, k.output.trans h.output, Nat.le_trans h.size k.size, fun b hb hn =>
    (k.block b (Nat.lt_of_lt_of_le hb h.size) (fun hm => hn (hq b hm hb))).trans (h.block b hb hn)⟩
theorem Fr.mono (h : Fr w w' fp) (hq : ∀ b, b ∈ fp → b ∈ fq) : Fr w w' fq := ⟨h.os, h.tape, h.output, h.size, fun b hb hn => h.block b hb (fun hm => hn (hq b hm))⟩
theorem Fr.drew (h : Fr w w' fp) : Fr w w'.drew fp := ⟨h.os, h.tape, h.output, h.size, h.block⟩
theorem Fr.alloc (h : Fr w w' fp) (o : Obj) : Fr w (w'.alloc o) fp :=
  h.trans (fq := []) ⟨rfl, rfl, rfl, by simp, fun k hk _ => Below.heap_alloc _ _ _ hk⟩ (by simp)
theorem Fr.setCell (h : Fr w w' fp) {p : Addr} (hp : p.block ∈ fp ∨ w.heap.size ≤ p.block) (u : Value) : Fr w (w'.setCell p u) fp :=
  h.trans (fq := [p.block]) ⟨rfl, rfl, rfl, by simp [World.setCell], fun k _ hk => Below.heap_setCell _ _ _ _ (by simpa using hk)⟩ (by simp; intro hb; rcases hp with hp | hp <;> first | exact hp | omega)
theorem Fr.grown {row : Option Nat} (h : Fr w w' fp) (hg : w'.grownBy w'' row) (hr : ∀ k, row = some k → k ∈ fp ∨ w.heap.size ≤ k) : Fr w w'' fp :=
  h.trans (fq := row.toList) ⟨hg.os, hg.tape, hg.output, hg.size, fun k hk hn => hg.block k hk (fun e => hn (by simp [← e]))⟩ (by
    intro b hb hlt
    simp at hb
    rcases hr b hb with h | h
    · exact h
    · omega)
theorem Fr.below {B : Nat} (h : Fr w w' fp) (hB : ∀ b ∈ fp, B ≤ b) (hs : B ≤ w.heap.size) : Below B w w' :=
  ⟨h.os, h.tape, h.output, h.size, fun k hk => h.block k (by omega) (fun hm => by have := hB k hm; omega)⟩
theorem Fr.row (h : Fr w w' fp) {g : Nat} {e : TypeId} {cs : List Value} (hr : Row w g e cs) (hg : g ∉ fp) : Row w' g e cs := (h.block g hr.lt hg).trans hr
theorem Fr.own (h : Fr w w' fp) {B : Nat} {e : TypeId} {s : Nat} {v : Value} {n : Nat} {xs : List Value} (ho : w.ownsRow B e s v n xs) (hg : ∀ g, v.ownBlock = some g → g ∉ fp) : w'.ownsRow B e s v n xs := by
  refine ⟨ho.1, ?_⟩
  rcases ho.2 with hn | ⟨g, cap, cur, rfl, hb, hgg, rest⟩
  · exact .inl hn
  · refine .inr ⟨g, cap, cur, rfl, hb, ?_, rest⟩
    rw [h.block g (Array.getElem?_eq_some_iff.1 hgg).1 (hg g rfl)]
    exact hgg
theorem Fr.rd (h : Fr w w' fp) {B : Nat} {A : Option Addr} {xs : List Value} (hr : Rd w B A xs) (hB : B ≤ w.heap.size) (hf : ∀ b ∈ fp, B ≤ b) : Rd w' B A xs := fun hn => by
  obtain ⟨g, o, e, hg, hc⟩ := hr hn
  exact ⟨g, o, e, hg, fun j u hu => (World.cell?_of_block (w := w) (a := ⟨g, o + j, none⟩) (h.block g (by omega) (fun hm => by have := hf g hm; omega))).trans (hc j u hu)⟩
/-- what reads in blocks that have not turned -/
theorem Fr.rd' (h : Fr w w' fp) {g o B : Nat} {xs : List Value} (hr : Rd w B (some ⟨g, o, none⟩) xs) (hg : g ∉ fp) (hlt : B ≤ w.heap.size := by exact Nat.le_refl _) : Rd w' B (some ⟨g, o, none⟩) xs := fun hn => by
  obtain ⟨g0, o0, e, hgb, hc⟩ := hr hn
  cases e
  exact ⟨g, o, rfl, hgb, fun j u hu => (World.cell?_of_block (w := w) (a := ⟨g, o + j, none⟩) (h.block g (by omega) hg)).trans (hc j u hu)⟩
end

/-- the disk S lies at p; its sectors at gs; its writes are owned by vw -/
structure HasD (w : World) (p gs : Nat) (vw : Value) (S : Sp) : Prop where
  disk : Row w p 80 [.slice (some ⟨gs, 0, none⟩) S.secs.length S.secs.length, vw, .bool S.on, .int .i64 (S.left : Int), .int .i64 (S.count : Int)]
  secs : Row w gs 95 (secRows S.secs (newest S.way)).flatten
  wrs : w.ownsRow 0 98 385 vw S.way.length (wrRows S.way).flatten
  ne1 : p ≠ gs
  ne2 : vw.ownBlock ≠ some p
  ne3 : vw.ownBlock ≠ some gs
  wf : S.WF
/-- the blocks that it has -/
def fpD (p gs : Nat) (vw : Value) : List Nat := p :: gs :: vw.ownBlock.toList
theorem HasD.fr {w w' : World} {p gs : Nat} {vw : Value} {S : Sp} {fp : List Nat} (h : HasD w p gs vw S) (hf : Fr w w' fp) (hd : ∀ b ∈ fpD p gs vw, b ∉ fp) : HasD w' p gs vw S :=
  ⟨hf.row h.disk (hd p (by simp [fpD])), hf.row h.secs (hd gs (by simp [fpD])), hf.own h.wrs (fun g hg => hd g (by simp [fpD, hg])), h.ne1, h.ne2, h.ne3, h.wf⟩
theorem HasD.lt {w : World} {p gs : Nat} {vw : Value} {S : Sp} (h : HasD w p gs vw S) : ∀ b ∈ fpD p gs vw, b < w.heap.size := by
  intro b hb
  simp only [fpD, List.mem_cons, Option.mem_toList] at hb
  rcases hb with rfl | rfl | hb
  · exact h.disk.lt
  · exact h.secs.lt
  · exact (h.wrs.lt b hb).2
section
variable {w : World} {p gs : Nat} {vw : Value} {S : Sp}
theorem HasD.c0 (h : HasD w p gs vw S) : w.cell? ⟨p, 0, none⟩ = some (.slice (some ⟨gs, 0, none⟩) S.secs.length S.secs.length) := h.disk.at_ 0 _ rfl
theorem HasD.c1 (h : HasD w p gs vw S) : w.cell? ⟨p, 1, none⟩ = some vw := h.disk.at_ 1 _ rfl
theorem HasD.c2 (h : HasD w p gs vw S) : w.cell? ⟨p, 2, none⟩ = some (.bool S.on) := h.disk.at_ 2 _ rfl
theorem HasD.c3 (h : HasD w p gs vw S) : w.cell? ⟨p, 3, none⟩ = some (.int .i64 (S.left : Int)) := h.disk.at_ 3 _ rfl
theorem HasD.c4 (h : HasD w p gs vw S) : w.cell? ⟨p, 4, none⟩ = some (.int .i64 (S.count : Int)) := h.disk.at_ 4 _ rfl
theorem HasD.f (h : HasD w p gs vw S) (i : Nat) : w.frozen? ⟨p, i, none⟩ = false := h.disk.frozen i
theorem HasD.drew (h : HasD w p gs vw S) : HasD w.drew p gs vw S := ⟨h.disk, h.secs, h.wrs, h.ne1, h.ne2, h.ne3, h.wf⟩
/-- fields on, left, count are turned -/
theorem HasD.put {w' : World} {o2 : Bool} {l c : Nat} (h : HasD w p gs vw S) (hf : Fr w w' [p]) (hd : Row w' p 80 [.slice (some ⟨gs, 0, none⟩) S.secs.length S.secs.length, vw, .bool o2, .int .i64 (l : Int), .int .i64 (c : Int)])
    (hl : l ≤ 9223372036854775807) (hc : S.way.length ≤ c) : HasD w' p gs vw { S with on := o2, left := l, count := c } :=
  ⟨hd, hf.row h.secs (by simpa using Ne.symm h.ne1), hf.own h.wrs (fun g hg => by simp; rintro rfl; exact h.ne2 hg), h.ne1, h.ne2, h.ne3, ⟨h.wf.len, h.wf.way, h.wf.few, hl, hc⟩⟩
end
end Go.Proofs.YtafbeepacncooaaDoor
/-
  The walks of the disk's small methods.
-/
namespace Go.Proofs.YtafbeepacncooaaDoor
open Go.RowKit

def dptr (p : Nat) : Value := .pointer (some ⟨p, 0, none⟩)
theorem has_yes (i : Int) (p gs : Nat) (vw : Value) (S : Sp) (w : World) (h : HasD w p gs vw S) (hi : 0 ≤ i) (hl : i < (S.secs.length : Int)) :
    Calls Tryd.prog 50 #[dptr p, .int .i64 i] w fun e w' => e = .returned (.bool true) ∧ w = w' := by
  have c0 := h.c0
  unfold dptr
  go_enter Tryd.func50, Tryd.ntmps50
  go_wp2
  go_ret
  exact ⟨by simp, rfl⟩
theorem has_no (i : Int) (p gs : Nat) (vw : Value) (S : Sp) (w : World) (h : HasD w p gs vw S) (hi : ¬ (0 ≤ i ∧ i < (S.secs.length : Int))) :
    Calls Tryd.prog 50 #[dptr p, .int .i64 i] w fun e w' => e = .returned (.bool false) ∧ w = w' := by
  have c0 := h.c0
  unfold dptr
  by_cases h1 : 0 ≤ i
  · have h2 : ¬ i < (S.secs.length : Int) := fun h2 => hi ⟨h1, h2⟩
    clear hi
    go_enter Tryd.func50, Tryd.ntmps50
    go_wp2
    go_ret
    exact ⟨by simp, rfl⟩
  · have h2 : decide (0 ≤ i) = false := by simp; omega
    clear hi
    go_enter Tryd.func50, Tryd.ntmps50
    go_wp2
    go_ret
    exact ⟨by simp, rfl⟩
/-- what a call of the disk leaves: its answer; the disk; nothing else has turned -/
def DE (w : World) (p gs : Nat) (vw : Value) (r : Sp × Int) (e : Ending) (w' : World) : Prop :=
  ∃ vw', e = .returned (.int .i64 r.2) ∧ HasD w' p gs vw' r.1 ∧ Fr w w' (fpD p gs vw) ∧ (∀ g, vw'.ownBlock = some g → vw.ownBlock = some g ∨ w.heap.size ≤ g)
theorem power_calls (p gs : Nat) (vw : Value) (S : Sp) (w : World) (h : HasD w p gs vw S) :
    Calls Tryd.prog 53 #[dptr p] w fun e w' => e = .returned (.tuple #[]) ∧ HasD w' p gs vw { S with on := false, left := 0 } ∧ Fr w w' [p] := by
  have c2 := h.c2
  have c3 := h.c3
  have f2 := h.f 2
  have f3 := h.f 3
  unfold dptr
  go_enter Tryd.func53, Tryd.ntmps53
  go_wp2
  go_end0
  have hf : Fr w ((w.setCell ⟨p, 2, none⟩ (.bool false)).setCell ⟨p, 3, none⟩ (.int .i64 0)) [p] := ((Fr.refl w [p]).setCell (p := ⟨p, 2, none⟩) (by simp) _).setCell (p := ⟨p, 3, none⟩) (by simp) _
  exact ⟨rfl, h.put hf ((h.disk.set_ 2 _).set_ 3 _) (by omega) h.wf.less, hf⟩
end Go.Proofs.YtafbeepacncooaaDoor
/-
  The walks of step, Fuse, Cut, and of the questions On, Marked, Pending, Steps.
-/
namespace Go.Proofs.YtafbeepacncooaaDoor
open Go.RowKit

theorem goes_off (p gs : Nat) (vw : Value) (S : Sp) (w : World) (h : HasD w p gs vw S) (ho : S.on = false) :
    Calls Tryd.prog 65 #[dptr p] w fun e w' => e = .returned (.int .i64 6) ∧ w = w' := by
  have c2 := h.c2
  rw [ho] at c2
  unfold dptr
  go_enter Tryd.func65, Tryd.ntmps65
  go_wp2
  go_ret
  exact ⟨rfl, rfl⟩
theorem goes_one (p gs : Nat) (vw : Value) (S : Sp) (w : World) (h : HasD w p gs vw S) (ho : S.on = true) (hl : S.left = 1) (hc : S.count ≤ 4611686018427387904) :
    Calls Tryd.prog 65 #[dptr p] w fun e w' => e = .returned (.int .i64 6) ∧ HasD w' p gs vw { S with on := false, left := 0, count := S.count + 1 } ∧ Fr w w' [p] := by
  have c2 := h.c2
  have c3 := h.c3
  have c4 := h.c4
  have f4 := h.f 4
  have hd := h.disk
  rw [ho] at c2
  rw [hl] at c3
  have hf : Fr w (w.setCell ⟨p, 4, none⟩ (.int .i64 ((S.count : Int) + 1))) [p] := (Fr.refl w [p]).setCell (p := ⟨p, 4, none⟩) (by simp) _
  have HN : HasD (w.setCell ⟨p, 4, none⟩ (.int .i64 ((S.count : Int) + 1))) p gs vw { S with count := S.count + 1 } := by
    exact h.put (o2 := S.on) (l := S.left) hf (h.disk.set_ 4 _) h.wf.left (by have := h.wf.less; omega)
  have HF := hid hf
  clear hf hd ho hl
  unfold dptr
  go_enter Tryd.func65, Tryd.ntmps65
  go_wp2_with (go_at_call 53; refine (power_calls p gs vw _ _ HN).mono ?_; rintro e w1 ⟨rfl, h1, hf1⟩)
  go_ret
  exact ⟨rfl, h1, HF.out.trans hf1 (by simp)⟩
theorem goes_end (p gs : Nat) (vw : Value) (S : Sp) (w : World) (h : HasD w p gs vw S) (l : Int) (hl : l = ((S.left - 1 : Nat) : Int)) :
    HasD ((w.setCell ⟨p, 4, none⟩ (.int .i64 ((S.count : Int) + 1))).setCell ⟨p, 3, none⟩ (.int .i64 l)) p gs vw { S with left := S.left - 1, count := S.count + 1 } ∧
      Fr w ((w.setCell ⟨p, 4, none⟩ (.int .i64 ((S.count : Int) + 1))).setCell ⟨p, 3, none⟩ (.int .i64 l)) [p] := by
  subst hl
  have hf : Fr w ((w.setCell ⟨p, 4, none⟩ (.int .i64 ((S.count : Int) + 1))).setCell ⟨p, 3, none⟩ (.int .i64 ((S.left - 1 : Nat) : Int))) [p] := ((Fr.refl w [p]).setCell (p := ⟨p, 4, none⟩) (by simp) _).setCell (p := ⟨p, 3, none⟩) (by simp) _
  exact ⟨h.put (o2 := S.on) hf ((h.disk.set_ 4 _).set_ 3 _) (by have := h.wf.left; omega) (by have := h.wf.less; omega), hf⟩
theorem goes_more (p gs : Nat) (vw : Value) (S : Sp) (w : World) (h : HasD w p gs vw S) (ho : S.on = true) (hl : S.left ≠ 1) (hc : S.count ≤ 4611686018427387904) :
    Calls Tryd.prog 65 #[dptr p] w fun e w' => e = .returned (.int .i64 0) ∧ HasD w' p gs vw { S with left := S.left - 1, count := S.count + 1 } ∧ Fr w w' [p] := by
  have c2 := h.c2
  have c3 := h.c3
  have c4 := h.c4
  have f4 := h.f 4
  have f3 := h.f 3
  have hw := h.wf.left
  rw [ho] at c2
  have hl1 : ((S.left : Int) == 1) = false := by simp; omega
  clear hl ho
  have HE := hid (goes_end p gs vw S w h)
  unfold dptr
  go_enter Tryd.func65, Tryd.ntmps65
  go_wp2_with fail
  all_goals (go_ret; exact ⟨rfl, HE.out _ (by omega)⟩)
theorem Sp.goes_off {S : Sp} (h : S.on = false) : S.goes = (S, 6) := by unfold Sp.goes; rw [if_pos h]
theorem Sp.goes_one {S : Sp} (h : S.on = true) (h1 : S.left = 1) : S.goes = ({ S with on := false, left := 0, count := S.count + 1 }, 6) := by
  unfold Sp.goes; rw [if_neg (by simp [h]), if_pos h1]
theorem Sp.goes_more {S : Sp} (h : S.on = true) (h1 : S.left ≠ 1) : S.goes = ({ S with left := S.left - 1, count := S.count + 1 }, 0) := by
  unfold Sp.goes; rw [if_neg (by simp [h]), if_neg h1]
theorem goes_any (p gs : Nat) (vw : Value) (S : Sp) (w : World) (h : HasD w p gs vw S) (hc : S.count ≤ 4611686018427387904) :
    Calls Tryd.prog 65 #[dptr p] w fun e w' => e = .returned (.int .i64 S.goes.2) ∧ HasD w' p gs vw S.goes.1 ∧ Fr w w' [p] := by
  cases ho : S.on with
  | false =>
    rw [Sp.goes_off ho]
    refine (goes_off p gs vw S w h ho).mono ?_
    rintro e w' ⟨rfl, rfl⟩
    exact ⟨rfl, h, Fr.refl _ _⟩
  | true =>
    by_cases h1 : S.left = 1
    · rw [Sp.goes_one ho h1]
      exact goes_one p gs vw S w h ho h1 hc
    · rw [Sp.goes_more ho h1]
      exact goes_more p gs vw S w h ho h1 hc
/-! ### Fuse, Cut -/
theorem fuse_any (p gs : Nat) (vw : Value) (S : Sp) (n : Int) (w : World) (h : HasD w p gs vw S) (hn : n ≤ 9223372036854775807) :
    Calls Tryd.prog 15 #[dptr p, .int .i64 n] w fun e w' => e = .returned (.int .i64 (S.fuse n).2) ∧ HasD w' p gs vw (S.fuse n).1 ∧ Fr w w' [p] := by
  have c2 := h.c2
  have c3 := h.c3
  have f3 := h.f 3
  cases ho : S.on with
  | false =>
    rw [ho] at c2
    have e : S.fuse n = (S, 6) := by unfold Sp.fuse; rw [if_pos ho]
    rw [e]
    clear e
    have HO := hid ho
    clear ho
    unfold dptr
    go_enter Tryd.func15, Tryd.ntmps15
    go_wp2_with fail
    go_ret
    exact ⟨rfl, h, Fr.refl _ _⟩
  | true =>
    rw [ho] at c2
    have e : S.fuse n = ({ S with left := n.toNat }, 0) := by unfold Sp.fuse; rw [if_neg (by simp [ho])]
    rw [e]
    clear e
    have HO := hid ho
    clear ho
    have HE : Hid (∀ l : Int, l = (n.toNat : Int) → HasD (w.setCell ⟨p, 3, none⟩ (.int .i64 l)) p gs vw { S with left := n.toNat } ∧ Fr w (w.setCell ⟨p, 3, none⟩ (.int .i64 l)) [p]) := by
      intro l hl
      subst hl
      have hf : Fr w (w.setCell ⟨p, 3, none⟩ (.int .i64 (n.toNat : Int))) [p] := (Fr.refl w [p]).setCell (p := ⟨p, 3, none⟩) (by simp) _
      exact ⟨h.put (o2 := S.on) hf (h.disk.set_ 3 _) (by omega) h.wf.less, hf⟩
    unfold dptr
    go_enter Tryd.func15, Tryd.ntmps15
    go_wp2_with fail
    all_goals (go_ret; exact ⟨rfl, HE.out _ (by omega)⟩)
theorem cut_any (p gs : Nat) (vw : Value) (S : Sp) (w : World) (h : HasD w p gs vw S) :
    Calls Tryd.prog 29 #[dptr p] w fun e w' => e = .returned (.int .i64 S.cut.2) ∧ HasD w' p gs vw S.cut.1 ∧ Fr w w' [p] := by
  have c2 := h.c2
  cases ho : S.on with
  | false =>
    rw [ho] at c2
    have e : S.cut = (S, 6) := by unfold Sp.cut; rw [if_pos ho]
    rw [e]
    clear e
    have HO := hid ho
    clear ho
    unfold dptr
    go_enter Tryd.func29, Tryd.ntmps29
    go_wp2_with fail
    go_ret
    exact ⟨rfl, h, Fr.refl _ _⟩
  | true =>
    rw [ho] at c2
    have e : S.cut = ({ S with on := false, left := 0 }, 0) := by unfold Sp.cut; rw [if_neg (by simp [ho])]
    rw [e]
    clear e
    have HO := hid ho
    clear ho
    unfold dptr
    go_enter Tryd.func29, Tryd.ntmps29
    go_wp2_with (go_at_call 53; refine (power_calls p gs vw S _ h).mono ?_; rintro e w1 ⟨rfl, h1, hf1⟩)
    go_ret
    exact ⟨rfl, h1, hf1⟩
/-! ### The questions -/
theorem on_any (p gs : Nat) (vw : Value) (S : Sp) (w : World) (h : HasD w p gs vw S) :
    Calls Tryd.prog 32 #[dptr p] w fun e w' => e = .returned (.bool S.on) ∧ w = w' := by
  have c2 := h.c2
  unfold dptr
  go_enter Tryd.func32, Tryd.ntmps32
  go_wp2
  go_ret
  exact ⟨by simp, rfl⟩
theorem steps_any (p gs : Nat) (vw : Value) (S : Sp) (w : World) (h : HasD w p gs vw S) :
    Calls Tryd.prog 17 #[dptr p] w fun e w' => e = .returned (.int .i64 (S.count : Int)) ∧ w = w' := by
  have c4 := h.c4
  unfold dptr
  go_enter Tryd.func17, Tryd.ntmps17
  go_wp2
  go_ret
  exact ⟨by simp, rfl⟩
theorem vw_shape {w : World} {B : Nat} {e : TypeId} {s : Nat} {v : Value} {n : Nat} {xs : List Value} (h : w.ownsRow B e s v n xs) : ∃ A c, v = .slice A n c := by
  rcases h.2 with ⟨rfl, rfl⟩ | ⟨g, cap, cur, rfl, _⟩
  · exact ⟨_, _, rfl⟩
  · exact ⟨_, _, rfl⟩
end Go.Proofs.YtafbeepacncooaaDoor
