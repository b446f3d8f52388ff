/-
  The calls that the laws play: what an Act is, text, does.
-/
import Derived.Test.YtogchfpecbmocaaM10
import Derived.Deep.RegionHeld3
import Derived.BigRegion
namespace Go.Proofs.Ytogchfpecbmocaa
open Go.RowKit

structure Act0 where
  kind : Int
  i : Int
  at_ : Int
  n : Int
  c : UInt8
  text : ByteArray
  A : Option Addr
  cap : Nat
  picks : List Int
def Act0.cells (x : Act0) : List Value := [.int .i64 x.kind, .int .i64 x.i, .int .i64 x.at_, .int .i64 x.n, .int .u8 (x.c.toNat : Int), .string x.text, .slice x.A x.picks.length x.cap]
def Act0.val (x : Act0) : Value := .agg #[.int .i64 x.kind, .int .i64 x.i, .int .i64 x.at_, .int .i64 x.n, .int .u8 (x.c.toNat : Int), .string x.text, .slice x.A x.picks.length x.cap]
/-- its picks lie below D; its numbers fit -/
structure Act0.OK (w : World) (D : Nat) (x : Act0) : Prop where
  rd : Rd w D x.A (ints x.picks)
  p : ∀ y ∈ x.picks, y ≤ 9223372036854775807
  pn : x.picks.length ≤ 9223372036854775807
  n : x.n ≤ 9223372036854775807
def Act0.bytes (x : Act0) : List UInt8 := if x.text.size = 0 then b384 x.c else sb x.text
theorem size_zero {s : ByteArray} (h : s.size = 0) : s = ⟨#[]⟩ := by
  cases s with
  | mk d => congr; exact Array.eq_empty_of_size_eq_zero h
theorem text_ne (s : ByteArray) (h : ¬ s.size = 0) : s.toList.isEmpty = false := by
  rw [ByteArray.toList_eq]
  cases h1 : s.data.toList with
  | nil =>
    exfalso
    apply h
    have : s.data.toList.length = 0 := by rw [h1]; rfl
    rw [Array.length_toList] at this
    exact this
  | cons _ _ => rfl
/-- what a call does, on the disk -/
def Sp.does (S : Sp) (x : Act0) : Sp × Int :=
  if x.kind = 1 then S.write x.i x.bytes else if x.kind = 2 then S.flush else if x.kind = 3 then S.fuse x.n else if x.kind = 4 then S.cut
  else if x.kind = 5 then S.start x.picks else if x.kind = 6 then S.rot x.i x.at_ x.n else (S, (S.read x.i).2)
end Go.Proofs.Ytogchfpecbmocaa
/-
  The walk of does, on a disk of the law's own.
-/
namespace Go.Proofs.Ytogchfpecbmocaa
open Go.RowKit

theorem str_of (s : List UInt8) : sb ⟨s.toArray⟩ = s := sb_str s
section
variable (i at_ n : Int) (c : UInt8) (text : ByteArray) (A : Option Addr) (cap l : Nat) {B : Nat} {w0 w : World} {p gs : Nat} {S S' : Sp} {x : Int} (h : Dk B w0 w p gs S) (hc : S.count ≤ 1048576)

end

end Go.Proofs.Ytogchfpecbmocaa
/-
  What a call does to a disk, in plain words: how many steps, which writes; what a loss of power leaves.
-/
namespace Go.Proofs.Ytogchfpecbmocaa
open Go.RowKit

theorem Sp.goes_way (S : Sp) : S.goes.1.way = S.way ∧ S.goes.1.secs = S.secs ∧ S.goes.1.count ≤ S.count + 1 := by
  cases ho : S.on with
  | false => rw [Sp.goes_off ho]; exact ⟨rfl, rfl, by simp⟩
  | true =>
    by_cases h1 : S.left = 1
    · rw [Sp.goes_one ho h1]; exact ⟨rfl, rfl, by simp⟩
    · rw [Sp.goes_more ho h1]; exact ⟨rfl, rfl, by simp⟩
/-- what is behind a call -/
structure Did (S : Sp) (x : Act0) (S' : Sp) (e : Int) : Prop where
  count : S'.count ≤ S.count + 1
  size : S'.secs.length = S.secs.length
  put : x.kind = 1 → e = 0 → 0 ≤ x.i ∧ S'.way = S.way ++ [⟨x.i.toNat, x.bytes⟩]
  keep : ¬ (x.kind = 1 ∧ e = 0) → S'.way = S.way ∨ S'.way = []
  all : (x.kind = 2 ∨ x.kind = 5) → e = 0 → S'.way = []
theorem did (S : Sp) (x : Act0) : Did S x (S.does x).1 (S.does x).2 := by
  have hg := S.goes_way
  unfold Sp.does
  by_cases h1 : x.kind = 1
  · rw [if_pos h1]
    unfold Sp.write
    by_cases h2 : ¬ S.is x.i ∨ x.bytes.length ≠ 384
    · rw [if_pos h2]
      exact ⟨by simp, rfl, fun _ h => by simp at h, fun _ => .inl rfl, fun h => by omega⟩
    · rw [if_neg h2]
      have hi : S.is x.i := Classical.byContradiction fun h => h2 (.inl h)
      by_cases h0 : S.goes.2 = 0
      · rw [if_pos h0]
        exact ⟨hg.2.2, by simp [hg.2.1], fun _ _ => ⟨hi.1, rfl⟩, fun h => absurd ⟨h1, rfl⟩ h, fun h => by omega⟩
      · rw [if_neg h0]
        exact ⟨hg.2.2, by rw [hg.2.1], fun _ h => absurd h h0, fun _ => .inl hg.1, fun h => by omega⟩
  rw [if_neg h1]
  by_cases h2 : x.kind = 2
  · rw [if_pos h2]
    unfold Sp.flush
    by_cases h0 : S.goes.2 = 0
    · rw [if_pos h0]
      exact ⟨hg.2.2, by simp [sett_length], fun h => absurd h h1, fun _ => .inr rfl, fun _ _ => rfl⟩
    · rw [if_neg h0]
      exact ⟨hg.2.2, by rw [hg.2.1], fun h => absurd h h1, fun _ => .inl hg.1, fun _ h => absurd h h0⟩
  rw [if_neg h2]
  by_cases h3 : x.kind = 3
  · rw [if_pos h3]
    unfold Sp.fuse
    split
    · exact ⟨by simp, rfl, fun h => absurd h h1, fun _ => .inl rfl, fun h => by omega⟩
    · exact ⟨by simp, rfl, fun h => absurd h h1, fun _ => .inl rfl, fun h => by omega⟩
  rw [if_neg h3]
  by_cases h4 : x.kind = 4
  · rw [if_pos h4]
    unfold Sp.cut
    split
    · exact ⟨by simp, rfl, fun h => absurd h h1, fun _ => .inl rfl, fun h => by omega⟩
    · exact ⟨by simp, rfl, fun h => absurd h h1, fun _ => .inl rfl, fun h => by omega⟩
  rw [if_neg h4]
  by_cases h5 : x.kind = 5
  · rw [if_pos h5]
    unfold Sp.start
    split
    · exact ⟨by simp, rfl, fun h => absurd h h1, fun _ => .inl rfl, fun _ h => by simp at h⟩
    · exact ⟨by simp, by simp [sett_length], fun h => absurd h h1, fun _ => .inr rfl, fun _ _ => rfl⟩
  rw [if_neg h5]
  by_cases h6 : x.kind = 6
  · rw [if_pos h6]
    unfold Sp.rot
    split
    · exact ⟨by simp, rfl, fun h => absurd h h1, fun _ => .inl rfl, fun h => by omega⟩
    split
    · exact ⟨by simp, rfl, fun h => absurd h h1, fun _ => .inl rfl, fun h => by omega⟩
    split
    · exact ⟨by simp, rfl, fun h => absurd h h1, fun _ => .inl rfl, fun h => by omega⟩
    · exact ⟨by simp, by simp, fun h => absurd h h1, fun _ => .inl rfl, fun h => by omega⟩
  rw [if_neg h6]
  exact ⟨by simp, rfl, fun h => absurd h h1, fun _ => .inl rfl, fun h => by omega⟩
/-- no write of sector i is under way -/
def NoW (S : Sp) (i : Int) : Prop := ∀ x ∈ S.way, (x.place : Int) ≠ i
/-- the law's own flag, behind a call -/
def nextW (b : Bool) (x : Act0) (i e : Int) : Bool :=
  if (x.kind = 2 ∨ x.kind = 5) ∧ e = 0 then false else if x.kind = 1 ∧ x.i = i ∧ e = 0 then true else b
theorem nw_step {S S' : Sp} {x : Act0} {i e : Int} {b : Bool} (hb : b = false → NoW S i) (hd : Did S x S' e) : nextW b x i e = false → NoW S' i := by
  intro hn
  unfold nextW at hn
  by_cases h2 : (x.kind = 2 ∨ x.kind = 5) ∧ e = 0
  · intro y hy
    rw [hd.all h2.1 h2.2] at hy
    cases hy
  · rw [if_neg h2] at hn
    by_cases h1 : x.kind = 1 ∧ x.i = i ∧ e = 0
    · rw [if_pos h1] at hn; cases hn
    · rw [if_neg h1] at hn
      have hw := hb hn
      by_cases h3 : x.kind = 1 ∧ e = 0
      · obtain ⟨h0, h4⟩ := hd.put h3.1 h3.2
        intro y hy
        rw [h4] at hy
        rcases List.mem_append.1 hy with hy | hy
        · exact hw y hy
        · simp at hy
          subst hy
          intro he
          apply h1
          refine ⟨h3.1, ?_, h3.2⟩
          simp only at he
          omega
      · intro y hy
        rcases hd.keep h3 with h4 | h4
        · rw [h4] at hy; exact hw y hy
        · rw [h4] at hy; cases hy
theorem sett_other (F : Nat → Nat) (way : List Wr) (secs : List Sec) (j : Nat) : (∀ x ∈ way, x.place ≠ j) → (sett F way secs)[j]? = secs[j]? := by
  refine snoc_ind (p := fun way => (∀ x ∈ way, x.place ≠ j) → (sett F way secs)[j]? = secs[j]?) (fun _ => rfl) ?_ way
  intro l x ih h
  rw [sett_snoc, List.getElem?_modify]
  have := h x (by simp)
  simp only [if_neg this]
  simpa using ih (fun y hy => h y (by simp [hy]))
theorem read_on {S : Sp} {k : Nat} (hi : S.is k) (ho : S.on = true) : S.read k = (lastw S.way k (S.secs.getD k ⟨[], false⟩).lasts, 0) := by
  unfold Sp.read
  rw [if_neg (fun h => h hi), if_neg (by simp [ho])]
  rfl
theorem read_bad {S : Sp} {i : Int} (hi : ¬ S.is i) : S.read i = ([], 1) := by
  unfold Sp.read
  rw [if_pos hi]
/-- behind a loss of power sector i reads as it did -/
theorem read_after {S : Sp} {i : Int} (picks : List Int) (hw : NoW S i) (ho : S.on = true) :
    (({ S with secs := sett (pickOf picks) S.way S.secs, way := [], on := true, left := 0 } : Sp).read i) = S.read i := by
  have e1 : ({ S with secs := sett (pickOf picks) S.way S.secs, way := [], on := true, left := 0 } : Sp).is i ↔ S.is i := by
    unfold Sp.is
    simp [sett_length]
  by_cases hi : S.is i
  · obtain ⟨k, rfl⟩ := Int.eq_ofNat_of_zero_le hi.1
    rw [read_on hi ho, read_on (e1.2 hi) rfl]
    have hn : ∀ x ∈ S.way, x.place ≠ k := fun x hx he => hw x hx (by omega)
    have h1 := sett_other (pickOf picks) S.way S.secs k hn
    rcases newest_get S.way k (S.secs.getD k ⟨[], false⟩).lasts with ⟨_, h2, _⟩ | ⟨j, _, hj, h3, _⟩
    · rw [h2]
      simp only [lastw, List.foldl_nil, List.getD, h1]
    · exact absurd h3 (hn _ (List.getElem_mem hj))
  · rw [read_bad hi, read_bad (fun h => hi (e1.1 h))]
end Go.Proofs.Ytogchfpecbmocaa
/-
  The answer's own disk in memory; its small calls.
-/
namespace Go.Proofs.Ytogchfpecbmocaa
open Go.RowKit

def laCells (S : Sp) : List Value := S.secs.map (fun s => str s.lasts)
def maCells (S : Sp) : List Value := S.secs.map (fun s => Value.bool s.marked)
def wyRows (way : List Wr) : List (List Value) := way.map (fun x => [.int .i64 (x.place : Int), str x.bytes])
theorem wyRows_len (way : List Wr) : ∀ r ∈ wyRows way, r.length = 2 := by
  intro r hr
  obtain ⟨x, _, rfl⟩ := List.mem_map.1 hr
  rfl
/-- the disk S lies at q, as the answer keeps it -/
structure HasR (w : World) (q gl gm cl cm : Nat) (vw : Value) (S : Sp) : Prop where
  disk : Row w q 61 [.slice (some ⟨gl, 0, none⟩) S.secs.length cl, .slice (some ⟨gm, 0, none⟩) S.secs.length cm, vw, .bool (!S.on), .int .i64 (S.left : Int), .int .i64 (S.count : Int)]
  la : w.ownsRow 0 9 1 (.slice (some ⟨gl, 0, none⟩) S.secs.length cl) S.secs.length (laCells S)
  ma : w.ownsRow 0 4 1 (.slice (some ⟨gm, 0, none⟩) S.secs.length cm) S.secs.length (maCells S)
  wy : w.ownsRow 0 95 2 vw S.way.length (wyRows S.way).flatten
  n1 : q ≠ gl
  n2 : q ≠ gm
  n3 : gl ≠ gm
  n4 : vw.ownBlock ≠ some q
  n5 : vw.ownBlock ≠ some gl
  n6 : vw.ownBlock ≠ some gm
  wf : S.WF
def fpR (q gl gm : Nat) (vw : Value) : List Nat := q :: gl :: gm :: vw.ownBlock.toList
section
variable {w w' : World} {q gl gm cl cm : Nat} {vw : Value} {S : Sp}
theorem HasR.fr {fp : List Nat} (h : HasR w q gl gm cl cm vw S) (hf : Fr w w' fp) (hd : ∀ b ∈ fpR q gl gm vw, b ∉ fp) : HasR w' q gl gm cl cm vw S :=
  ⟨hf.row h.disk (hd q (by simp [fpR])), hf.own h.la (fun g hg => by cases hg; exact hd _ (by simp [fpR])), hf.own h.ma (fun g hg => by cases hg; exact hd _ (by simp [fpR])), hf.own h.wy (fun g hg => hd g (by simp [fpR, hg])), h.n1, h.n2, h.n3, h.n4, h.n5, h.n6, h.wf⟩
theorem HasR.lt (h : HasR w q gl gm cl cm vw S) : ∀ b ∈ fpR q gl gm vw, b < w.heap.size := by
  intro b hb
  simp only [fpR, List.mem_cons, Option.mem_toList] at hb
  rcases hb with rfl | rfl | rfl | hb
  · exact h.disk.lt
  · exact (h.la.lt _ rfl).2
  · exact (h.ma.lt _ rfl).2
  · exact (h.wy.lt b hb).2
theorem HasR.drewN (h : HasR w q gl gm cl cm vw S) (n : Nat) : HasR (w.drewN n) q gl gm cl cm vw S := ⟨h.disk, h.la, h.ma, h.wy, h.n1, h.n2, h.n3, h.n4, h.n5, h.n6, h.wf⟩
theorem HasR.c0 (h : HasR w q gl gm cl cm vw S) : w.cell? ⟨q, 0, none⟩ = some (.slice (some ⟨gl, 0, none⟩) S.secs.length cl) := h.disk.at_ 0 _ rfl
theorem HasR.c1 (h : HasR w q gl gm cl cm vw S) : w.cell? ⟨q, 1, none⟩ = some (.slice (some ⟨gm, 0, none⟩) S.secs.length cm) := h.disk.at_ 1 _ rfl
theorem HasR.c2 (h : HasR w q gl gm cl cm vw S) : w.cell? ⟨q, 2, none⟩ = some vw := h.disk.at_ 2 _ rfl
theorem HasR.c3 (h : HasR w q gl gm cl cm vw S) : w.cell? ⟨q, 3, none⟩ = some (.bool (!S.on)) := h.disk.at_ 3 _ rfl
theorem HasR.c4 (h : HasR w q gl gm cl cm vw S) : w.cell? ⟨q, 4, none⟩ = some (.int .i64 (S.left : Int)) := h.disk.at_ 4 _ rfl
theorem HasR.c5 (h : HasR w q gl gm cl cm vw S) : w.cell? ⟨q, 5, none⟩ = some (.int .i64 (S.count : Int)) := h.disk.at_ 5 _ rfl
theorem HasR.f (h : HasR w q gl gm cl cm vw S) (i : Nat) : w.frozen? ⟨q, i, none⟩ = false := h.disk.frozen i
theorem HasR.lc (h : HasR w q gl gm cl cm vw S) (k : Nat) (hk : k < S.secs.length) : w.cell? ⟨gl, k, none⟩ = some (str S.secs[k].lasts) := by
  rw [h.la.cellAt k (by omega), laCells, List.getElem?_map, List.getElem?_eq_getElem hk]
  rfl
theorem HasR.mc (h : HasR w q gl gm cl cm vw S) (k : Nat) (hk : k < S.secs.length) : w.cell? ⟨gm, k, none⟩ = some (.bool S.secs[k].marked) := by
  rw [h.ma.cellAt k (by omega), maCells, List.getElem?_map, List.getElem?_eq_getElem hk]
  rfl
theorem HasR.wyShape (h : HasR w q gl gm cl cm vw S) (hk : 0 < S.way.length) : ∃ g c, vw = .slice (some ⟨g, 0, none⟩) S.way.length c := by
  rcases h.wy.2 with ⟨_, h0⟩ | ⟨g, cap, cur, hv, _, hg, hc, _⟩
  · omega
  · exact ⟨g, cap, hv⟩
theorem HasR.wc (h : HasR w q gl gm cl cm vw S) (k : Nat) (hk : k < S.way.length) (g c : Nat) (hv : vw = .slice (some ⟨g, 0, none⟩) S.way.length c) :
    w.cell? ⟨g, k * 2, none⟩ = some (.int .i64 (S.way[k].place : Int)) ∧ w.cell? ⟨g, k * 2 + 1, none⟩ = some (str S.way[k].bytes) := by
  have ho := h.wy
  rw [hv] at ho
  have e : ∀ j, j < 2 → (wyRows S.way).flatten[k * 2 + j]? = ([.int .i64 (S.way[k].place : Int), str S.way[k].bytes] : List Value)[j]? := by
    intro j hj
    rw [flat_get 2 _ k j (wyRows_len _) hj, wyRows, List.getElem?_map, List.getElem?_eq_getElem hk]
    rfl
  refine ⟨?_, ?_⟩
  · have := ho.cellAt (k * 2 + 0) (by omega)
    rw [e 0 (by omega)] at this
    simpa using this
  · have := ho.cellAt (k * 2 + 1) (by omega)
    rw [e 1 (by omega)] at this
    simpa using this
/-- fields off, left, count are turned -/
theorem HasR.put {o2 : Bool} {l c : Nat} (h : HasR w q gl gm cl cm vw S) (hf : Fr w w' [q])
    (hd : Row w' q 61 [.slice (some ⟨gl, 0, none⟩) S.secs.length cl, .slice (some ⟨gm, 0, none⟩) S.secs.length cm, vw, .bool (!o2), .int .i64 (l : Int), .int .i64 (c : Int)])
    (hl : l ≤ 9223372036854775807) (hc : S.way.length ≤ c) : HasR w' q gl gm cl cm vw { S with on := o2, left := l, count := c } :=
  ⟨hd, hf.own h.la (fun g hg => by cases hg; simpa using Ne.symm h.n1), hf.own h.ma (fun g hg => by cases hg; simpa using Ne.symm h.n2), hf.own h.wy (fun g hg => by simp; rintro rfl; exact h.n4 hg), h.n1, h.n2, h.n3, h.n4, h.n5, h.n6, ⟨h.wf.len, h.wf.way, h.wf.few, hl, hc⟩⟩
end
/-- what a call leaves -/
def RE (w : World) (q gl gm cl cm : Nat) (vw : Value) (r : Sp × Int) (e : Ending) (w' : World) : Prop :=
  ∃ vw', e = .returned (.int .i64 r.2) ∧ HasR w' q gl gm cl cm vw' r.1 ∧ Fr w w' (fpR q gl gm vw) ∧ (∀ g, vw'.ownBlock = some g → vw.ownBlock = some g ∨ w.heap.size ≤ g)
theorem ris_any (i : Int) (q gl gm cl cm : Nat) (vw : Value) (S : Sp) (w : World) (h : HasR w q gl gm cl cm vw S) :
    Calls Try.prog 59 #[dptr q, .int .i64 i] w fun e w' => e = .returned (.bool (decide (S.is i))) ∧ w = w' := by
  have c0 := h.c0
  unfold dptr
  by_cases hi : S.is i
  · rw [decide_eq_true hi]
    obtain ⟨h1, h2⟩ := hi
    go_enter Try.func59, Try.ntmps59
    go_wp2
    go_ret
    exact ⟨by simp, rfl⟩
  · rw [decide_eq_false hi]
    by_cases h1 : 0 ≤ i
    · have h2 : ¬ i < (S.secs.length : Int) := fun h2 => hi ⟨h1, h2⟩
      clear hi
      go_enter Try.func59, Try.ntmps59
      go_wp2
      go_ret
      exact ⟨by simp, rfl⟩
    · have h2 : decide (0 ≤ i) = false := by simp; omega
      clear hi
      go_enter Try.func59, Try.ntmps59
      go_wp2
      go_ret
      exact ⟨by simp, rfl⟩
theorem rgoes_off (q gl gm cl cm : Nat) (vw : Value) (S : Sp) (w : World) (h : HasR w q gl gm cl cm vw S) (ho : S.on = false) :
    Calls Try.prog 72 #[dptr q] w fun e w' => e = .returned (.bool false) ∧ w = w' := by
  have c3 := h.c3
  rw [ho] at c3
  unfold dptr
  go_enter Try.func72, Try.ntmps72
  go_wp2
  go_ret
  exact ⟨rfl, rfl⟩
theorem rgoes_end (q gl gm cl cm : Nat) (vw : Value) (S : Sp) (w : World) (h : HasR w q gl gm cl cm vw S) (l : Int) (hle : l = ((S.left - 1 : Nat) : Int)) :
    HasR ((w.setCell ⟨q, 5, none⟩ (.int .i64 ((S.count : Int) + 1))).setCell ⟨q, 4, none⟩ (.int .i64 l)) q gl gm cl cm vw { S with left := S.left - 1, count := S.count + 1 } ∧
      Fr w ((w.setCell ⟨q, 5, none⟩ (.int .i64 ((S.count : Int) + 1))).setCell ⟨q, 4, none⟩ (.int .i64 l)) [q] := by
  subst hle
  have hf : Fr w ((w.setCell ⟨q, 5, none⟩ (.int .i64 ((S.count : Int) + 1))).setCell ⟨q, 4, none⟩ (.int .i64 ((S.left - 1 : Nat) : Int))) [q] := ((Fr.refl w [q]).setCell (p := ⟨q, 5, none⟩) (by simp) _).setCell (p := ⟨q, 4, none⟩) (by simp) _
  exact ⟨h.put (o2 := S.on) hf ((h.disk.set_ 5 _).set_ 4 _) (by have := h.wf.left; omega) (by have := h.wf.less; omega), hf⟩
theorem rgoes_zero (q gl gm cl cm : Nat) (vw : Value) (S : Sp) (w : World) (h : HasR w q gl gm cl cm vw S) (hl : S.left = 0) :
    HasR (w.setCell ⟨q, 5, none⟩ (.int .i64 ((S.count : Int) + 1))) q gl gm cl cm vw { S with left := S.left - 1, count := S.count + 1 } ∧ Fr w (w.setCell ⟨q, 5, none⟩ (.int .i64 ((S.count : Int) + 1))) [q] := by
  have hf : Fr w (w.setCell ⟨q, 5, none⟩ (.int .i64 ((S.count : Int) + 1))) [q] := (Fr.refl w [q]).setCell (p := ⟨q, 5, none⟩) (by simp) _
  have e : S.left - 1 = S.left := by omega
  rw [e]
  exact ⟨h.put (o2 := S.on) (l := S.left) hf (h.disk.set_ 5 _) h.wf.left (by have := h.wf.less; omega), hf⟩
theorem rgoes_last (q gl gm cl cm : Nat) (vw : Value) (S : Sp) (w : World) (h : HasR w q gl gm cl cm vw S) :
    HasR (((w.setCell ⟨q, 5, none⟩ (.int .i64 ((S.count : Int) + 1))).setCell ⟨q, 3, none⟩ (.bool true)).setCell ⟨q, 4, none⟩ (.int .i64 0)) q gl gm cl cm vw { S with on := false, left := 0, count := S.count + 1 } ∧
      Fr w (((w.setCell ⟨q, 5, none⟩ (.int .i64 ((S.count : Int) + 1))).setCell ⟨q, 3, none⟩ (.bool true)).setCell ⟨q, 4, none⟩ (.int .i64 0)) [q] := by
  have hf : Fr w (((w.setCell ⟨q, 5, none⟩ (.int .i64 ((S.count : Int) + 1))).setCell ⟨q, 3, none⟩ (.bool true)).setCell ⟨q, 4, none⟩ (.int .i64 0)) [q] :=
    (((Fr.refl w [q]).setCell (p := ⟨q, 5, none⟩) (by simp) _).setCell (p := ⟨q, 3, none⟩) (by simp) _).setCell (p := ⟨q, 4, none⟩) (by simp) _
  exact ⟨h.put (o2 := false) (l := 0) hf (((h.disk.set_ 5 _).set_ 3 _).set_ 4 _) (by omega) (by have := h.wf.less; omega), hf⟩
/-- a call that counts: does the power stay? -/
theorem rgoes_any (q gl gm cl cm : Nat) (vw : Value) (S : Sp) (w : World) (h : HasR w q gl gm cl cm vw S) (hc : S.count ≤ 4611686018427387904) :
    Calls Try.prog 72 #[dptr q] w fun e w' => e = .returned (.bool (S.goes.2 == 0)) ∧ HasR w' q gl gm cl cm vw S.goes.1 ∧ Fr w w' [q] := by
  cases ho : S.on with
  | false =>
    rw [Sp.goes_off ho]
    refine (rgoes_off q gl gm cl cm vw S w h ho).mono ?_
    rintro e w' ⟨rfl, rfl⟩
    exact ⟨rfl, h, Fr.refl _ _⟩
  | true =>
    have c3 := h.c3
    have c4 := h.c4
    have c5 := h.c5
    have f3 := h.f 3
    have f4 := h.f 4
    have f5 := h.f 5
    have hw := h.wf.left
    rw [ho] at c3
    by_cases h1 : S.left = 1
    · rw [Sp.goes_one ho h1]
      rw [h1] at c4
      have HE := hid (rgoes_last q gl gm cl cm vw S w h)
      clear ho h1
      unfold dptr
      go_enter Try.func72, Try.ntmps72
      go_wp2_with fail
      all_goals (go_ret; exact ⟨rfl, HE.out⟩)
    · rw [Sp.goes_more ho h1]
      have hl1 : ((S.left : Int) == 1) = false := by simp; omega
      by_cases h0 : S.left = 0
      · have HE := hid (rgoes_zero q gl gm cl cm vw S w h h0)
        have c4' := c4
        rw [h0] at c4'
        clear c4 hl1
        have HO := hid ho
        clear ho h1 h0
        unfold dptr
        go_enter Try.func72, Try.ntmps72
        go_wp2_with fail
        all_goals (go_ret; exact ⟨rfl, HE.out⟩)
      · have HE := hid (rgoes_end q gl gm cl cm vw S w h)
        have hl0 : 0 < (S.left : Int) := by omega
        have HO := hid ho
        have HL : Hid ((S.left : Int) - 1 = ((S.left - 1 : Nat) : Int)) := hid (by omega)
        clear ho h1 h0
        unfold dptr
        go_enter Try.func72, Try.ntmps72
        go_wp2_with fail
        all_goals (go_ret; exact ⟨rfl, HE.out _ HL.out⟩)
end Go.Proofs.Ytogchfpecbmocaa
/-
  The answer's own disk: Write, Fuse, Cut, Read.
-/
namespace Go.Proofs.Ytogchfpecbmocaa
open Go.RowKit

theorem RE.same {w : World} {q gl gm cl cm : Nat} {vw : Value} {S : Sp} {x : Int} (h : HasR w q gl gm cl cm vw S) : RE w q gl gm cl cm vw (S, x) (.returned (.int .i64 x)) w := ⟨vw, rfl, h, Fr.refl _ _, fun _ hg => .inl hg⟩
theorem RE.one {w w' : World} {q gl gm cl cm : Nat} {vw : Value} {S : Sp} {x : Int} (h : HasR w' q gl gm cl cm vw S) (hf : Fr w w' [q]) : RE w q gl gm cl cm vw (S, x) (.returned (.int .i64 x)) w' :=
  ⟨vw, rfl, h, hf.mono (by simp [fpR]), fun _ hg => .inl hg⟩
theorem infoRw : (Try.prog.info? 95).map (fun i => (i.zero, i.size, i.bytes)) = some (some (.agg #[.int .i64 0, .string ⟨#[]⟩]), 2, 24) := by kernel_rfl
theorem two_news (w : World) (a b : Value) (e : TypeId) : ∀ j u, ([a, b] : List Value)[j]? = some u → (w.alloc (.cells #[a, b] e)).cell? ((⟨w.heap.size, 0, none⟩ : Addr).add j) = some u := by
  have := World.news_of_block (heap_alloc_new w (.cells #[a, b] e))
  simpa using this
theorem rapp_facts {w1 w4 : World} {q gl gm cl cm : Nat} {vw : Value} {S : Sp} {ob : Obj} (h : HasR w1 q gl gm cl cm vw S) (hg : (w1.alloc ob).grownBy w4 vw.ownBlock) :
    Row w4 q 61 [.slice (some ⟨gl, 0, none⟩) S.secs.length cl, .slice (some ⟨gm, 0, none⟩) S.secs.length cm, vw, .bool (!S.on), .int .i64 (S.left : Int), .int .i64 (S.count : Int)] ∧ Fr w1 w4 vw.ownBlock.toList := by
  have hf : Fr w1 w4 vw.ownBlock.toList := ((Fr.refl w1 vw.ownBlock.toList).alloc ob).grown hg (by intro b hb; exact .inl (by simp [hb]))
  exact ⟨hf.row h.disk (by simpa using h.n4), hf⟩
theorem rwrite_end {w w1 w4 : World} {q gl gm cl cm : Nat} {vw : Value} {S : Sp} {k g cap : Nat} {s : List UInt8} (hf1 : Fr w w1 [q]) (h : HasR w1 q gl gm cl cm vw S) (hf4 : Fr w1 w4 vw.ownBlock.toList) (hs : s.length = 384) (hk : k < S.secs.length) (hc : S.way.length < S.count)
    (hp : Row w4 q 61 [.slice (some ⟨gl, 0, none⟩) S.secs.length cl, .slice (some ⟨gm, 0, none⟩) S.secs.length cm, vw, .bool (!S.on), .int .i64 (S.left : Int), .int .i64 (S.count : Int)])
    (ho : w4.ownsRow 0 95 2 (.slice (some ⟨g, 0, none⟩) (S.way.length + 1) cap) (S.way.length + 1) ((wyRows S.way).flatten ++ [.int .i64 (k : Int), str s]))
    (hat : vw.ownBlock = some g ∨ g = w1.heap.size + 1) :
    let w5 := w4.setCell ⟨q, 2, none⟩ (.slice (some ⟨g, 0, none⟩) (S.way.length + 1) cap)
    HasR w5 q gl gm cl cm (.slice (some ⟨g, 0, none⟩) (S.way.length + 1) cap) { S with way := S.way ++ [⟨k, s⟩] } ∧ Fr w w5 (fpR q gl gm vw) ∧ (vw.ownBlock = some g ∨ w.heap.size ≤ g) := by
  intro w5
  have hlt := h.lt
  have hgq : g ≠ q := by
    rintro rfl
    rcases hat with h' | h'
    · exact h.n4 h'
    · have := hlt g (by simp [fpR]); omega
  have hgl : g ≠ gl := by
    rintro rfl
    rcases hat with h' | h'
    · exact h.n5 h'
    · have := hlt g (by simp [fpR]); omega
  have hgm : g ≠ gm := by
    rintro rfl
    rcases hat with h' | h'
    · exact h.n6 h'
    · have := hlt g (by simp [fpR]); omega
  have hf5 : Fr w4 w5 [q] := (Fr.refl w4 [q]).setCell (p := ⟨q, 2, none⟩) (by simp) _
  have hf15 : Fr w1 w5 (q :: vw.ownBlock.toList) := (hf4.mono (by intro b hb; exact List.mem_cons_of_mem _ hb)).trans hf5 (by intro b hb _; simp at hb; subst hb; simp)
  refine ⟨⟨?_, ?_, ?_, ?_, h.n1, h.n2, h.n3, ?_, ?_, ?_, ?_⟩, ?_, ?_⟩
  · exact hp.set_ 2 _
  · exact hf15.own h.la (fun b hb => by cases hb; simp; exact ⟨Ne.symm h.n1, h.n5⟩)
  · exact hf15.own h.ma (fun b hb => by cases hb; simp; exact ⟨Ne.symm h.n2, h.n6⟩)
  · have e : (wyRows (S.way ++ [⟨k, s⟩])).flatten = (wyRows S.way).flatten ++ [.int .i64 (k : Int), str s] := by simp [wyRows]
    have := hf5.own ho (fun b hb => by cases hb; simpa using hgq)
    simp only [List.length_append, List.length_cons, List.length_nil, Nat.zero_add]
    rw [e]
    exact this
  · simpa [Value.ownBlock] using hgq
  · simpa [Value.ownBlock] using hgl
  · simpa [Value.ownBlock] using hgm
  · refine ⟨h.wf.len, ?_, h.wf.few, h.wf.left, ?_⟩
    · intro x hx
      rcases List.mem_append.1 hx with hx | hx
      · exact h.wf.way x hx
      · simp at hx; subst hx; exact ⟨hk, hs⟩
    · simp only [List.length_append, List.length_cons, List.length_nil]; omega
  · exact (hf1.mono (by simp [fpR])).trans hf15 (by intro b hb _; simp at hb; rcases hb with rfl | hb <;> simp [fpR, *])
  · rcases hat with h' | h'
    · exact .inl h'
    · right; have := hf1.size; omega
set_option maxRecDepth 10000 in
set_option maxHeartbeats 400000 in
theorem rwrite_ok (q gl gm cl cm : Nat) (vw : Value) (S : Sp) (k : Nat) (s : ByteArray) (w : World) (h : HasR w q gl gm cl cm vw S) (hk : k < S.secs.length) (hs : s.size = 384) (ho : S.on = true) (hl : S.left ≠ 1) (hc : S.count ≤ 1048576) :
    Calls Try.prog 50 #[dptr q, .int .i64 (k : Int), .string s] w (RE w q gl gm cl cm vw (S.write k (sb s))) := by
  obtain ⟨i0, hi, hz0, hz1, hz2⟩ := info_parts infoRw
  have hway := h.wf.less
  have hsz : (s.size : Int) = 384 := by omega
  have HIS := hid (ris_any k q gl gm cl cm vw S w h)
  have hisk : decide (S.is k) = true := decide_eq_true ⟨by omega, by omega⟩
  rw [hisk] at HIS
  have HG := rgoes_any q gl gm cl cm vw S w h (by omega)
  rw [Sp.goes_more ho hl, show ((0 : Int) == 0) = true from rfl] at HG
  have HGG := hid HG
  have HONE : Hid (∀ u ∈ ([.int .i64 (k : Int), .string s] : List Value), u.oneCell' = true) := hid (by intro u hu; simp at hu; rcases hu with rfl | rfl <;> rfl)
  rw [Sp.write_ok hk (by rw [sb_len]; exact hs) ho hl]
  have hstr : Value.string s = str (sb s) := by simp [str, sb]
  have HSTR := hid hstr
  have HS := hid hs
  clear hs HG hisk hstr ho
  unfold dptr at *
  go_enter Try.func50, Try.ntmps50
  go_wp2_with (first
    | (go_at_call 59; refine HIS.out.mono ?_; rintro e w1 ⟨rfl, rfl⟩)
    | (go_at_call 72; refine HGG.out.mono ?_; rintro e w1 ⟨rfl, h1, hf1⟩; have c12 := h1.c2)
    | (with_reducible refine wpList_append_lies _ rfl (.tmp 23) (.tmp 27) 59 rfl 0 95 i0 _ 2 24 Try.underlying59 hi hz0 hz1 hz2 rfl (by decide) vw S.way.length (wyRows S.way).flatten rfl (h1.wy.alloc _) ⟨w1.heap.size, 0, none⟩ 1 1 [.int .i64 (k : Int), .string s] rfl rfl (two_news _ _ _ _) HONE.out (by decide) (le_maxLen (by omega)) (by omega) (Nat.zero_le _) (w1.heap.size + 1) (by simp) ?_; intro g cap w4 ho4 hg4 hat hlt4; obtain ⟨r4, hf4⟩ := rapp_facts h1 hg4; have c42 := r4.at_ 2 _ rfl; have f42 := r4.frozen 2; rw [HSTR.out] at ho4; have WE := hid (rwrite_end (k := k) (s := sb s) hf1 h1 hf4 (by rw [sb_len]; exact HS.out) hk (by show S.way.length < S.count + 1; omega) r4 ho4 hat); clear r4 ho4 hf4))
  go_ret
  exact ⟨.slice (some ⟨g, 0, none⟩) (S.way.length + 1) cap, rfl, WE.out.1, WE.out.2.1, fun g' hg' => by cases hg'; exact WE.out.2.2⟩
set_option maxRecDepth 10000 in
theorem rwrite_arg (q gl gm cl cm : Nat) (vw : Value) (S : Sp) (i : Int) (s : ByteArray) (w : World) (h : HasR w q gl gm cl cm vw S) (hi : ¬ S.is i ∨ s.size ≠ 384) :
    Calls Try.prog 50 #[dptr q, .int .i64 i, .string s] w (RE w q gl gm cl cm vw (S, 1)) := by
  have HH := hid h
  have HIS := ris_any i q gl gm cl cm vw S w h
  by_cases h1 : S.is i
  · have hsz : ((s.size : Int) != 384) = true := by
      rcases hi with hi | hi
      · exact absurd h1 hi
      · exact bne_iff_ne.2 (by omega)
    rw [decide_eq_true h1] at HIS
    have HI := hid HIS
    clear hi HIS h1
    unfold dptr at *
    go_enter Try.func50, Try.ntmps50
    go_wp2_with (go_at_call 59; refine HI.out.mono ?_; rintro e w1 ⟨rfl, rfl⟩)
    go_ret
    exact RE.same HH.out
  · rw [decide_eq_false h1] at HIS
    have HI := hid HIS
    clear hi HIS h1
    unfold dptr at *
    go_enter Try.func50, Try.ntmps50
    go_wp2_with (go_at_call 59; refine HI.out.mono ?_; rintro e w1 ⟨rfl, rfl⟩)
    go_ret
    exact RE.same HH.out
set_option maxRecDepth 10000 in
theorem rwrite_down (q gl gm cl cm : Nat) (vw : Value) (S : Sp) (i : Int) (s : ByteArray) (w : World) (h : HasR w q gl gm cl cm vw S) (hi : S.is i) (hs : s.size = 384) (hc : S.count ≤ 1048576) (hg : S.goes.2 = 6) :
    Calls Try.prog 50 #[dptr q, .int .i64 i, .string s] w (RE w q gl gm cl cm vw (S.goes.1, 6)) := by
  have hsz : (s.size : Int) = 384 := by omega
  have HIS := ris_any i q gl gm cl cm vw S w h
  rw [decide_eq_true hi] at HIS
  have HG := rgoes_any q gl gm cl cm vw S w h (by omega)
  rw [hg, show ((6 : Int) == 0) = false from rfl] at HG
  have HI := hid HIS
  have HGG := hid HG
  clear HG hg hs HIS hi
  unfold dptr at *
  go_enter Try.func50, Try.ntmps50
  go_wp2_with (first
    | (go_at_call 59; refine HI.out.mono ?_; rintro e w1 ⟨rfl, rfl⟩)
    | (go_at_call 72; refine HGG.out.mono ?_; rintro e w1 ⟨rfl, h1, hf1⟩; have H1 := hid h1; have HF1 := hid hf1; clear h1 hf1))
  go_ret
  exact RE.one H1.out HF1.out
theorem rwrite_any (q gl gm cl cm : Nat) (vw : Value) (S : Sp) (i : Int) (s : ByteArray) (w : World) (h : HasR w q gl gm cl cm vw S) (hc : S.count ≤ 1048576) :
    Calls Try.prog 50 #[dptr q, .int .i64 i, .string s] w (RE w q gl gm cl cm vw (S.write i (sb s))) := by
  by_cases h1 : ¬ S.is i ∨ s.size ≠ 384
  · have e : S.write i (sb s) = (S, 1) := by unfold Sp.write; rw [if_pos (by rw [sb_len]; exact h1)]
    rw [e]
    exact rwrite_arg q gl gm cl cm vw S i s w h h1
  · have h2 : S.is i := Classical.byContradiction fun h => h1 (.inl h)
    have h3 : s.size = 384 := Classical.byContradiction fun h => h1 (.inr h)
    rcases S.goes_cases with hg | ⟨ho, hl, _⟩
    · have e : S.write i (sb s) = (S.goes.1, 6) := by unfold Sp.write; rw [if_neg (by rw [sb_len]; exact h1), if_neg (by rw [hg]; decide), Sp.goes_six hg]
      rw [e]
      exact rwrite_down q gl gm cl cm vw S i s w h h2 h3 hc hg
    · obtain ⟨k, rfl⟩ := Int.eq_ofNat_of_zero_le h2.1
      exact rwrite_ok q gl gm cl cm vw S k s w h (by have := h2.2; omega) h3 ho hl hc
end Go.Proofs.Ytogchfpecbmocaa
/-
  The answer's own disk: Fuse, Cut, Read.
-/
namespace Go.Proofs.Ytogchfpecbmocaa
open Go.RowKit

theorem rput_left {w : World} {q gl gm cl cm : Nat} {vw : Value} {S : Sp} (h : HasR w q gl gm cl cm vw S) (l0 : Int) (l : Nat) (hl : l ≤ 9223372036854775807) :
    (HasR (w.setCell ⟨q, 4, none⟩ (.int .i64 (l : Int))) q gl gm cl cm vw { S with left := l } ∧ Fr w (w.setCell ⟨q, 4, none⟩ (.int .i64 (l : Int))) [q]) ∧
    (HasR ((w.setCell ⟨q, 4, none⟩ (.int .i64 l0)).setCell ⟨q, 4, none⟩ (.int .i64 (l : Int))) q gl gm cl cm vw { S with left := l } ∧ Fr w ((w.setCell ⟨q, 4, none⟩ (.int .i64 l0)).setCell ⟨q, 4, none⟩ (.int .i64 (l : Int))) [q]) := by
  have hf : Fr w (w.setCell ⟨q, 4, none⟩ (.int .i64 (l : Int))) [q] := (Fr.refl w [q]).setCell (p := ⟨q, 4, none⟩) (by simp) _
  have hf2 : Fr w ((w.setCell ⟨q, 4, none⟩ (.int .i64 l0)).setCell ⟨q, 4, none⟩ (.int .i64 (l : Int))) [q] := ((Fr.refl w [q]).setCell (p := ⟨q, 4, none⟩) (by simp) _).setCell (p := ⟨q, 4, none⟩) (by simp) _
  refine ⟨⟨h.put (o2 := S.on) (c := S.count) hf (h.disk.set_ 4 _) hl h.wf.less, hf⟩, ⟨h.put (o2 := S.on) (c := S.count) hf2 ?_ hl h.wf.less, hf2⟩⟩
  have := (h.disk.set_ 4 (.int .i64 l0)).set_ 4 (.int .i64 (l : Int))
  exact this
theorem rfuse_any (q gl gm cl cm : Nat) (vw : Value) (S : Sp) (n : Int) (w : World) (h : HasR w q gl gm cl cm vw S) (hn : n ≤ 9223372036854775807) :
    Calls Try.prog 22 #[dptr q, .int .i64 n] w (RE w q gl gm cl cm vw (S.fuse n)) := by
  have c3 := h.c3
  have c4 := h.c4
  have f4 := h.f 4
  cases ho : S.on with
  | false =>
    rw [ho] at c3
    have e : S.fuse n = (S, 6) := by unfold Sp.fuse; rw [if_pos ho]
    rw [e]
    have HH := hid h
    clear e ho
    unfold dptr
    go_enter Try.func22, Try.ntmps22
    go_wp2_with fail
    go_ret
    exact RE.same HH.out
  | true =>
    rw [ho] at c3
    have e : S.fuse n = ({ S with left := n.toNat }, 0) := by unfold Sp.fuse; rw [if_neg (by simp [ho])]
    rw [e]
    have HH := hid h
    clear e
    have HO := hid ho
    clear ho
    unfold dptr
    by_cases h1 : n < 1
    · have HE := hid (rput_left HH.out n 0 (by omega)).2
      have e : n.toNat = 0 := by omega
      rw [e]
      clear e
      go_enter Try.func22, Try.ntmps22
      go_wp2_with fail
      go_ret
      exact RE.one HE.out.1 HE.out.2
    · have HE := hid (rput_left HH.out n n.toNat (by omega)).1
      have e : ((n.toNat : Nat) : Int) = n := by omega
      rw [e] at HE
      clear e
      have hd : decide (n < 1) = false := by simp; omega
      go_enter Try.func22, Try.ntmps22
      go_wp2_with fail
      go_ret
      exact RE.one HE.out.1 HE.out.2
theorem rcut_any (q gl gm cl cm : Nat) (vw : Value) (S : Sp) (w : World) (h : HasR w q gl gm cl cm vw S) :
    Calls Try.prog 24 #[dptr q] w (RE w q gl gm cl cm vw S.cut) := by
  have c3 := h.c3
  have c4 := h.c4
  have f3 := h.f 3
  have f4 := h.f 4
  cases ho : S.on with
  | false =>
    rw [ho] at c3
    have e : S.cut = (S, 6) := by unfold Sp.cut; rw [if_pos ho]
    rw [e]
    have HH := hid h
    clear e ho
    unfold dptr
    go_enter Try.func24, Try.ntmps24
    go_wp2_with fail
    go_ret
    exact RE.same HH.out
  | true =>
    rw [ho] at c3
    rw [Sp.cut_ok ho]
    have hf : Fr w ((w.setCell ⟨q, 3, none⟩ (.bool true)).setCell ⟨q, 4, none⟩ (.int .i64 0)) [q] := ((Fr.refl w [q]).setCell (p := ⟨q, 3, none⟩) (by simp) _).setCell (p := ⟨q, 4, none⟩) (by simp) _
    have HE := hid (show HasR ((w.setCell ⟨q, 3, none⟩ (.bool true)).setCell ⟨q, 4, none⟩ (.int .i64 0)) q gl gm cl cm vw { S with on := false, left := 0 } ∧ Fr w ((w.setCell ⟨q, 3, none⟩ (.bool true)).setCell ⟨q, 4, none⟩ (.int .i64 0)) [q] from
      ⟨h.put (o2 := false) (l := 0) (c := S.count) hf ((h.disk.set_ 3 _).set_ 4 _) (by omega) h.wf.less, hf⟩)
    clear hf ho
    unfold dptr
    go_enter Try.func24, Try.ntmps24
    go_wp2_with fail
    go_ret
    exact RE.one HE.out.1 HE.out.2
theorem lastw_next (way : List Wr) (i : Nat) (d : List UInt8) (j : Nat) (hj : j < way.length) : lastw (way.take (j + 1)) i d = if way[j].place = i then way[j].bytes else lastw (way.take j) i d := by
  rw [List.take_succ_eq_append_getElem hj, lastw_snoc]
set_option maxRecDepth 10000 in
set_option maxHeartbeats 400000 in
theorem rread_on (q gl gm cl cm : Nat) (vw : Value) (S : Sp) (k : Nat) (w : World) (h : HasR w q gl gm cl cm vw S) (hk : k < S.secs.length) (ho : S.on = true) (hc : S.count ≤ 1048576) :
    Calls Try.prog 34 #[dptr q, .int .i64 (k : Int)] w fun e w' => TN (lastw S.way k S.secs[k].lasts, 0) e ∧ w = w' := by
  have c0 := h.c0
  have c2 := h.c2
  have c3 := h.c3
  have lc := h.lc k hk
  have hway := h.wf.less
  rw [ho] at c3
  obtain ⟨A, c, hv⟩ := vw_shape h.wy
  rw [hv] at c2
  have HV := hid hv
  have hki : (k : Int) < (S.secs.length : Int) := by omega
  have HIS := ris_any k q gl gm cl cm vw S w h
  rw [show decide (S.is k) = true from decide_eq_true ⟨by omega, by omega⟩] at HIS
  have HI := hid HIS
  have HH := hid h
  clear hv HIS ho h
  unfold dptr str at *
  go_enter Try.func34, Try.ntmps34
  go_wp2_with (go_at_call 59; refine HI.out.mono ?_; rintro e w1 ⟨rfl, rfl⟩)
  go_loop [6, 7] (fun s j => ∃ jj : Nat, jj ≤ S.way.length ∧ j = .int .i64 jj ∧ s = .string ⟨(lastw (S.way.take jj) k S.secs[k].lasts).toArray⟩) (fun _ j => S.way.length - (intOf j).toNat)
  case atStart => exact ⟨0, by omega, rfl, by simp [lastw]⟩
  case round =>
    obtain ⟨j, hj, rfl, rfl⟩ := hrel
    by_cases hlt : j < S.way.length
    · obtain ⟨g, c', hv'⟩ := HH.out.wyShape (by omega)
      obtain ⟨w1, w2⟩ := HH.out.wc j hlt g c' hv'
      have hva := HV.out
      rw [hv'] at hva
      cases hva
      have hji : (j : Int) < (S.way.length : Int) := by omega
      have HN := hid (lastw_next S.way k S.secs[k].lasts j hlt)
      unfold str at w2
      clear hv'
      by_cases hp : S.way[j].place = k
      · have HN2 := HN.out
        rw [if_pos hp] at HN2
        have HN3 := hid HN2
        have hpb : (((S.way[j].place : Nat) : Int) == (k : Int)) = true := by simp [hp]
        clear HN2 hp HN
        go_wp2_with fail
        go_round
        case rel => exact ⟨j + 1, by omega, by go_num, by rw [HN3.out]⟩
        case measure => simp [intOf]; omega
      · have HN2 := HN.out
        rw [if_neg hp] at HN2
        have HN3 := hid HN2
        have hpb : (((S.way[j].place : Nat) : Int) == (k : Int)) = false := by simp; omega
        clear HN2 hp HN
        go_wp2_with fail
        go_round
        case rel => exact ⟨j + 1, by omega, by go_num, by rw [HN3.out]⟩
        case measure => simp [intOf]; omega
    · obtain rfl : j = S.way.length := by omega
      go_wp2_with fail
      go_ret2
      exact ⟨rfl, rfl⟩
theorem rread_any (q gl gm cl cm : Nat) (vw : Value) (S : Sp) (i : Int) (w : World) (h : HasR w q gl gm cl cm vw S) (hc : S.count ≤ 1048576) :
    Calls Try.prog 34 #[dptr q, .int .i64 i] w fun e w' => TN (S.read i) e ∧ w = w' := by
  by_cases hi : S.is i
  · obtain ⟨k, rfl⟩ := Int.eq_ofNat_of_zero_le hi.1
    have hk : k < S.secs.length := by have := hi.2; omega
    cases ho : S.on with
    | true =>
      have e : S.read k = (lastw S.way k S.secs[k].lasts, 0) := by
        rw [read_on hi ho]; simp [hk]
      rw [e]
      exact rread_on q gl gm cl cm vw S k w h hk ho hc
    | false =>
      have e : S.read k = ([], 6) := by unfold Sp.read; rw [if_neg (fun h => h hi), if_pos ho]
      rw [e]
      have c3 := h.c3
      rw [ho] at c3
      have HIS := ris_any k q gl gm cl cm vw S w h
      rw [decide_eq_true hi] at HIS
      have HI := hid HIS
      clear HIS ho e hi
      unfold dptr at *
      go_enter Try.func34, Try.ntmps34
      go_wp2_with (go_at_call 59; refine HI.out.mono ?_; rintro e w1 ⟨rfl, rfl⟩)
      go_ret2
      exact ⟨rfl, rfl⟩
  · rw [read_bad hi]
    have HIS := ris_any i q gl gm cl cm vw S w h
    rw [decide_eq_false hi] at HIS
    have HI := hid HIS
    clear HIS hi
    unfold dptr at *
    go_enter Try.func34, Try.ntmps34
    go_wp2_with (go_at_call 59; refine HI.out.mono ?_; rintro e w1 ⟨rfl, rfl⟩)
    go_ret2
    exact ⟨rfl, rfl⟩
end Go.Proofs.Ytogchfpecbmocaa
/-
  The answer's own disk: Flush.
-/
namespace Go.Proofs.Ytogchfpecbmocaa
open Go.RowKit

def laC (secs : List Sec) : List Value := secs.map (fun s => str s.lasts)
def maC (secs : List Sec) : List Value := secs.map (fun s => Value.bool s.marked)
/-- what stands behind k writes -/
structure RndR (wr : World) (gl gm cl cm : Nat) (S : Sp) (F : Nat → Nat) (k : Nat) : Prop where
  la : wr.ownsRow 0 9 1 (.slice (some ⟨gl, 0, none⟩) S.secs.length cl) S.secs.length (laC (sett F (S.way.take k) S.secs))
  ma : wr.ownsRow 0 4 1 (.slice (some ⟨gm, 0, none⟩) S.secs.length cm) S.secs.length (maC (sett F (S.way.take k) S.secs))
theorem RndR.lc {wr : World} {gl gm cl cm : Nat} {S : Sp} {F : Nat → Nat} {k : Nat} (h : RndR wr gl gm cl cm S F k) (i : Nat) (hi : i < (sett F (S.way.take k) S.secs).length) :
    wr.cell? ⟨gl, i, none⟩ = some (str (sett F (S.way.take k) S.secs)[i].lasts) ∧ wr.cell? ⟨gm, i, none⟩ = some (.bool (sett F (S.way.take k) S.secs)[i].marked) := by
  have hn : i < S.secs.length := by rw [sett_length] at hi; exact hi
  refine ⟨?_, ?_⟩
  · rw [h.la.cellAt i (by omega), laC, List.getElem?_map, List.getElem?_eq_getElem hi]; rfl
  · rw [h.ma.cellAt i (by omega), maC, List.getElem?_map, List.getElem?_eq_getElem hi]; rfl
/-- one write more, its mark stored too -/
theorem RndR.next {wr : World} {gl gm cl cm : Nat} {S : Sp} {F : Nat → Nat} {k : Nat} (h : RndR wr gl gm cl cm S F k) (hne : gl ≠ gm) (hk : k < S.way.length) (hi : S.way[k].place < (sett F (S.way.take k) S.secs).length) (l : List UInt8) (m : Bool)
    (hl : (takeD (sett F (S.way.take k) S.secs)[S.way[k].place] S.way[k].bytes (F k)).lasts = l) (hm : (takeD (sett F (S.way.take k) S.secs)[S.way[k].place] S.way[k].bytes (F k)).marked = m) :
    RndR ((wr.setCell ⟨gl, S.way[k].place, none⟩ (str l)).setCell ⟨gm, S.way[k].place, none⟩ (.bool m)) gl gm cl cm S F (k + 1) := by
  subst hl hm
  have s1 := (h.la.stored S.way[k].place (str (takeD (sett F (S.way.take k) S.secs)[S.way[k].place] S.way[k].bytes (F k)).lasts))
  have m1 := (Fr.setCell (Fr.refl wr [gl]) (p := ⟨gl, S.way[k].place, none⟩) (by simp) (str (takeD (sett F (S.way.take k) S.secs)[S.way[k].place] S.way[k].bytes (F k)).lasts)).own h.ma (fun g hg => by cases hg; simpa using Ne.symm hne)
  have m2 := (m1.stored S.way[k].place (.bool (takeD (sett F (S.way.take k) S.secs)[S.way[k].place] S.way[k].bytes (F k)).marked)).1
  have s2 := (Fr.setCell (Fr.refl (wr.setCell ⟨gl, S.way[k].place, none⟩ (str (takeD (sett F (S.way.take k) S.secs)[S.way[k].place] S.way[k].bytes (F k)).lasts)) [gm]) (p := ⟨gm, S.way[k].place, none⟩) (by simp) (.bool (takeD (sett F (S.way.take k) S.secs)[S.way[k].place] S.way[k].bytes (F k)).marked)).own s1.1 (fun g hg => by cases hg; simpa using hne)
  refine ⟨?_, ?_⟩
  · rw [sett_step F S.way S.secs k hk hi]
    have e : laC ((sett F (S.way.take k) S.secs).set S.way[k].place (takeD (sett F (S.way.take k) S.secs)[S.way[k].place] S.way[k].bytes (F k))) = (laC (sett F (S.way.take k) S.secs)).set S.way[k].place (str (takeD (sett F (S.way.take k) S.secs)[S.way[k].place] S.way[k].bytes (F k)).lasts) := by simp [laC, List.map_set]
    rw [e]
    exact s2
  · rw [sett_step F S.way S.secs k hk hi]
    have e : maC ((sett F (S.way.take k) S.secs).set S.way[k].place (takeD (sett F (S.way.take k) S.secs)[S.way[k].place] S.way[k].bytes (F k))) = (maC (sett F (S.way.take k) S.secs)).set S.way[k].place (.bool (takeD (sett F (S.way.take k) S.secs)[S.way[k].place] S.way[k].bytes (F k)).marked) := by simp [maC, List.map_set]
    rw [e]
    exact m2
/-- one write more, the mark as it was -/
theorem RndR.next0 {wr : World} {gl gm cl cm : Nat} {S : Sp} {F : Nat → Nat} {k : Nat} (h : RndR wr gl gm cl cm S F k) (hne : gl ≠ gm) (hk : k < S.way.length) (hi : S.way[k].place < (sett F (S.way.take k) S.secs).length) (l : List UInt8)
    (hl : (takeD (sett F (S.way.take k) S.secs)[S.way[k].place] S.way[k].bytes (F k)).lasts = l) (hm : (takeD (sett F (S.way.take k) S.secs)[S.way[k].place] S.way[k].bytes (F k)).marked = (sett F (S.way.take k) S.secs)[S.way[k].place].marked) :
    RndR (wr.setCell ⟨gl, S.way[k].place, none⟩ (str l)) gl gm cl cm S F (k + 1) := by
  subst hl
  have s1 := (h.la.stored S.way[k].place (str (takeD (sett F (S.way.take k) S.secs)[S.way[k].place] S.way[k].bytes (F k)).lasts))
  have m1 := (Fr.setCell (Fr.refl wr [gl]) (p := ⟨gl, S.way[k].place, none⟩) (by simp) (str (takeD (sett F (S.way.take k) S.secs)[S.way[k].place] S.way[k].bytes (F k)).lasts)).own h.ma (fun g hg => by cases hg; simpa using Ne.symm hne)
  refine ⟨?_, ?_⟩
  · rw [sett_step F S.way S.secs k hk hi]
    have e : laC ((sett F (S.way.take k) S.secs).set S.way[k].place (takeD (sett F (S.way.take k) S.secs)[S.way[k].place] S.way[k].bytes (F k))) = (laC (sett F (S.way.take k) S.secs)).set S.way[k].place (str (takeD (sett F (S.way.take k) S.secs)[S.way[k].place] S.way[k].bytes (F k)).lasts) := by simp [laC, List.map_set]
    rw [e]
    exact s1.1
  · rw [sett_step F S.way S.secs k hk hi]
    have e : maC ((sett F (S.way.take k) S.secs).set S.way[k].place (takeD (sett F (S.way.take k) S.secs)[S.way[k].place] S.way[k].bytes (F k))) = maC (sett F (S.way.take k) S.secs) := by
      apply List.ext_getElem?
      intro j
      simp only [maC, List.getElem?_map, List.getElem?_set]
      by_cases hj : S.way[k].place = j
      · subst hj
        simp only [hi, if_true, List.getElem?_eq_getElem hi, Option.map_some, hm]
      · simp [hj]
    rw [e]
    exact m1
theorem RndR.drewN {wr : World} {gl gm cl cm : Nat} {S : Sp} {F : Nat → Nat} {k : Nat} (h : RndR wr gl gm cl cm S F k) (n : Nat) : RndR (wr.drewN n) gl gm cl cm S F k := ⟨h.la, h.ma⟩
theorem RndR.drew {wr : World} {gl gm cl cm : Nat} {S : Sp} {F : Nat → Nat} {k : Nat} (h : RndR wr gl gm cl cm S F k) : RndR wr.drew gl gm cl cm S F k := ⟨h.la, h.ma⟩
/-- nothing is under way any more -/
theorem HasR.settled {w w1 : World} {q gl gm cl cm : Nat} {vw : Value} {S : Sp} {F : Nat → Nat} (hF : ∀ k, F k ≤ 384) (h : HasR w q gl gm cl cm vw S) (hf : Fr w w1 [gl, gm]) (hr : RndR w1 gl gm cl cm S F S.way.length) :
    HasR (w1.setCell ⟨q, 2, none⟩ (.slice none 0 0)) q gl gm cl cm (.slice none 0 0) { S with secs := sett F S.way S.secs, way := [] } ∧ Fr w (w1.setCell ⟨q, 2, none⟩ (.slice none 0 0)) (fpR q gl gm vw) := by
  have hd := (hf.row h.disk (by simp; exact ⟨h.n1, h.n2⟩)).set_ 2 (.slice none 0 0)
  have hf2 : Fr w1 (w1.setCell ⟨q, 2, none⟩ (.slice none 0 0)) [q] := (Fr.refl w1 [q]).setCell (p := ⟨q, 2, none⟩) (by simp) _
  have hla := hf2.own hr.la (fun g hg => by cases hg; simpa using Ne.symm h.n1)
  have hma := hf2.own hr.ma (fun g hg => by cases hg; simpa using Ne.symm h.n2)
  rw [List.take_length] at hla hma
  have e := sett_length F S.way S.secs
  refine ⟨⟨?_, ?_, ?_, World.ownsRow_nil _ _ _ _, h.n1, h.n2, h.n3, by simp [Value.ownBlock], by simp [Value.ownBlock], by simp [Value.ownBlock], ?_⟩, ?_⟩
  · simpa [e] using hd
  · simpa [e, laCells, laC] using hla
  · simpa [e, maCells, maC] using hma
  · exact ⟨sett_wf F hF S.way S.secs h.wf.len (fun x hx => (h.wf.way x hx).2), by simp, by simpa [sett_length] using h.wf.few, h.wf.left, by simp⟩
  · exact (hf.mono (fq := fpR q gl gm vw) (by simp [fpR])).setCell (p := ⟨q, 2, none⟩) (.inl (by simp [fpR])) _
set_option maxRecDepth 10000 in
set_option maxHeartbeats 1000000 in
theorem rflush_ok (q gl gm cl cm : Nat) (vw : Value) (S : Sp) (w : World) (h : HasR w q gl gm cl cm vw S) (ho : S.on = true) (hl : S.left ≠ 1) (hc : S.count ≤ 1048576) :
    Calls Try.prog 51 #[dptr q] w (RE w q gl gm cl cm vw S.flush) := by
  rw [Sp.flush_ok ho hl]
  have hway := h.wf.less
  have HG := rgoes_any q gl gm cl cm vw S w h (by omega)
  rw [Sp.goes_more ho hl, show ((0 : Int) == 0) = true from rfl] at HG
  have HGG := hid HG
  clear HG ho hl
  unfold dptr at *
  go_enter Try.func51, Try.ntmps51
  go_wp2_with (go_at_call 72; refine HGG.out.mono ?_; rintro e w1 ⟨rfl, h1, hf1⟩)
  obtain ⟨S1, hS1⟩ : ∃ S1 : Sp, ({ S with left := S.left - 1, count := S.count + 1 } : Sp) = S1 := ⟨_, rfl⟩
  have hw1 : S1.way = S.way := by rw [← hS1]
  have hfin : ({ S with left := S.left - 1, count := S.count + 1, secs := sett (fun _ => 384) S.way S.secs, way := [] } : Sp) = { S1 with secs := sett (fun _ => 384) S1.way S1.secs, way := [] } := by rw [← hS1]
  rw [hS1] at h1
  rw [← hw1] at hway
  have HFIN := hid hfin
  clear hS1 hfin hw1
  have H1 := hid h1
  have HF1 := hid hf1
  have n1 := h1.n1
  have n2 := h1.n2
  have n3 := h1.n3
  have n1' := Ne.symm h1.n1
  have n2' := Ne.symm h1.n2
  have n3' := Ne.symm h1.n3
  clear hf1 h
  go_loopw [3] (fun i wr => ∃ k : Nat, k ≤ S1.way.length ∧ i = .int .i64 k ∧ RndR wr gl gm cl cm S1 (fun _ => 384) k ∧ Fr w1 wr [gl, gm]) (fun i _ => S1.way.length - (intOf i).toNat)
  case atStart => exact ⟨0, by omega, rfl, ⟨h1.la, h1.ma⟩, Fr.refl _ _⟩
  case round =>
    obtain ⟨k, hk, rfl, hrd, hfr⟩ := hrel
    have hdk := hfr.row H1.out.disk (by simp; exact ⟨n1, n2⟩)
    have d0 := hdk.at_ 0 _ rfl
    have d1 := hdk.at_ 1 _ rfl
    have d2 := hdk.at_ 2 _ rfl
    have f2 := hdk.frozen 2
    by_cases hlt : k < S1.way.length
    · obtain ⟨g, c', hv'⟩ := H1.out.wyShape (by omega)
      have hgb : vw.ownBlock = some g := by rw [hv']; rfl
      have hgl : g ≠ gl := fun e => H1.out.n5 (by rw [hgb, e])
      have hgm : g ≠ gm := fun e => H1.out.n6 (by rw [hgb, e])
      have hwy := hfr.own H1.out.wy (fun b hb => by rw [hgb] at hb; cases hb; simp; exact ⟨hgl, hgm⟩)
      obtain ⟨x1, x2⟩ := H1.out.wc k hlt g c' hv'
      have hgw := hfr.block g (World.block_lt_of_cell? _ _ x1) (by simp; exact ⟨hgl, hgm⟩)
      have w1c : wr.cell? ⟨g, k * 2, none⟩ = some (.int .i64 (S1.way[k].place : Int)) := (World.cell?_of_block (w := w1) (a := ⟨g, k * 2, none⟩) hgw).trans x1
      have w2c : wr.cell? ⟨g, k * 2 + 1, none⟩ = some (str S1.way[k].bytes) := (World.cell?_of_block (w := w1) (a := ⟨g, k * 2 + 1, none⟩) hgw).trans x2
      rw [hv'] at d2
      have hpl := (H1.out.wf.way _ (List.getElem_mem hlt)).1
      have hpi : ((S1.way[k].place : Nat) : Int) < (S1.secs.length : Int) := by omega
      have hki : (k : Int) < (S1.way.length : Int) := by omega
      have hi : S1.way[k].place < (sett (fun _ => 384) (S1.way.take k) S1.secs).length := by rw [sett_length]; exact hpl
      obtain ⟨l1, l2⟩ := hrd.lc _ hi
      have lf := hrd.la.frozenAt S1.way[k].place
      have mf := hrd.ma.frozenAt S1.way[k].place
      have hby := (H1.out.wf.way _ (List.getElem_mem hlt)).2
      have hts : (sett (fun _ => 384) (S1.way.take k) S1.secs)[S1.way[k].place].lasts.length = 384 := sett_wf _ (fun _ => Nat.le_refl _) _ _ H1.out.wf.len (fun x hx => (H1.out.wf.way x (List.mem_of_mem_take hx)).2) _ (List.getElem_mem hi)
      have ht1 : (takeD (sett (fun _ => 384) (S1.way.take k) S1.secs)[S1.way[k].place] S1.way[k].bytes 384).lasts = S1.way[k].bytes := by
        simp only [takeD]
        rw [List.take_of_length_le (by omega), List.drop_eq_nil_of_le (by omega), List.append_nil]
      have HNX := hid ((hrd.next n3 hlt hi _ false ht1 (by simp [takeD])))
      have HFR := hid hfr
      obtain ⟨old, hold⟩ : ∃ old, str (sett (fun _ => 384) (S1.way.take k) S1.secs)[S1.way[k].place].lasts = .string old := ⟨_, rfl⟩
      obtain ⟨om, hom⟩ : ∃ om, (sett (fun _ => 384) (S1.way.take k) S1.secs)[S1.way[k].place].marked = om := ⟨_, rfl⟩
      obtain ⟨txt, htxt⟩ : ∃ txt, str S1.way[k].bytes = .string txt := ⟨_, rfl⟩
      obtain ⟨pl, hpl2⟩ : ∃ pl, S1.way[k].place = pl := ⟨_, rfl⟩
      rw [hold] at l1
      rw [hom] at l2
      rw [htxt] at w2c HNX
      rw [hpl2] at l1 l2 lf mf w1c hpi HNX
      clear hrd hwy hgw x1 x2 hdk hts ht1 hi hby hpl hv' hgb hold htxt hom
      go_wp2_with fail
      go_region
      go_wp2_with fail
      go_region
      go_wp2_with fail
      go_roundw
      case rel => exact ⟨k + 1, by omega, by go_num, HNX.out.drew.drew, ((HFR.out.setCell (p := ⟨gl, pl, none⟩) (by simp) _).setCell (p := ⟨gm, pl, none⟩) (by simp) _).drew.drew⟩
      case measure => simp [intOf]; omega
    · obtain rfl : k = S1.way.length := by omega
      have HE := hid (HasR.settled (F := fun _ => 384) (fun _ => Nat.le_refl _) H1.out hfr hrd)
      obtain ⟨A, c, hv⟩ := vw_shape H1.out.wy
      rw [hv] at d2
      clear hrd hfr hv hdk
      go_wp2_with fail
      go_ret
      rw [HFIN.out]
      exact ⟨.slice none 0 0, rfl, HE.out.1, (HF1.out.mono (by simp [fpR])).trans HE.out.2 (fun b hb _ => hb), fun g hg => by simp [Value.ownBlock] at hg⟩
theorem rflush_any (q gl gm cl cm : Nat) (vw : Value) (S : Sp) (w : World) (h : HasR w q gl gm cl cm vw S) (hc : S.count ≤ 1048576) :
    Calls Try.prog 51 #[dptr q] w (RE w q gl gm cl cm vw S.flush) := by
  rcases S.goes_cases with hg | ⟨ho, hl, _⟩
  · have e : S.flush = (S.goes.1, 6) := by unfold Sp.flush; rw [if_neg (by rw [hg]; decide), Sp.goes_six hg]
    rw [e]
    have HG := rgoes_any q gl gm cl cm vw S w h (by omega)
    rw [hg, show ((6 : Int) == 0) = false from rfl] at HG
    have HGG := hid HG
    clear HG hg e
    unfold dptr at *
    go_enter Try.func51, Try.ntmps51
    go_wp2_with (go_at_call 72; refine HGG.out.mono ?_; rintro e w1 ⟨rfl, h1, hf1⟩; have H1 := hid h1; have HF1 := hid hf1; clear h1 hf1)
    go_ret
    exact RE.one H1.out HF1.out
  · exact rflush_ok q gl gm cl cm vw S w h ho hl hc
end Go.Proofs.Ytogchfpecbmocaa
/-
  The answer's own disk: Start.
-/
namespace Go.Proofs.Ytogchfpecbmocaa
open Go.RowKit

theorem mix_take (s : Sec) (b : List UInt8) (c : Nat) : (takeD s b c).lasts = mixS b s.lasts c := rfl
theorem mix_l (a b : List UInt8) (c : Nat) (w : World) (ha : a.length = 384) (hb : b.length = 384) (hc : c ≤ 384) : Calls Try.prog 57 #[.string ⟨a.toArray⟩, .string ⟨b.toArray⟩, .int .i64 (c : Int)] w (NS w (mixS a b c)) := by
  have sz : ∀ l : List UInt8, (⟨l.toArray⟩ : ByteArray).size = l.length := fun l => by rw [← sb_len]; simp [sb]
  have H := mix_any ⟨a.toArray⟩ ⟨b.toArray⟩ c w (by rw [sz, ha]) (by rw [sz, hb]) hc
  rw [sb_str, sb_str] at H
  exact H
theorem RndR.fr {wr w3 : World} {gl gm cl cm : Nat} {S : Sp} {F : Nat → Nat} {k : Nat} (h : RndR wr gl gm cl cm S F k) (hf : Fr wr w3 []) : RndR w3 gl gm cl cm S F k := ⟨hf.own h.la (by simp), hf.own h.ma (by simp)⟩
/-- what is there behind the call of Mix -/
theorem mix_facts {wr w3 : World} {q gl gm cl cm pl : Nat} {S : Sp} {F : Nat → Nat} {k : Nat} {v0 v1 v2 : Value} (hrd : RndR wr gl gm cl cm S F k) (hf : Fr wr.drew w3 [])
    (d0 : wr.cell? ⟨q, 0, none⟩ = some v0) (d1 : wr.cell? ⟨q, 1, none⟩ = some v1) (l1 : wr.cell? ⟨gl, pl, none⟩ = some v2) (l2 : ∃ b, wr.cell? ⟨gm, pl, none⟩ = some b) :
    w3.cell? ⟨q, 0, none⟩ = some v0 ∧ w3.cell? ⟨q, 1, none⟩ = some v1 ∧ w3.cell? ⟨gl, pl, none⟩ = some v2 ∧ w3.frozen? ⟨gl, pl, none⟩ = false ∧ (∃ b, w3.cell? ⟨gm, pl, none⟩ = some b) ∧ w3.frozen? ⟨gm, pl, none⟩ = false ∧ RndR w3 gl gm cl cm S F k ∧ ∀ a v, wr.cell? a = some v → w3.cell? a = some v := by
  have hf' : Fr wr w3 [] := hf.undrew (n := 1)
  have cell : ∀ a v, wr.cell? a = some v → w3.cell? a = some v := fun a v h => (World.cell?_of_block (w := wr) (hf'.block a.block (World.block_lt_of_cell? wr _ h) (by simp))).trans h
  have hr3 := hrd.fr hf'
  obtain ⟨b, hb⟩ := l2
  exact ⟨cell _ _ d0, cell _ _ d1, cell _ _ l1, hr3.la.frozenAt pl, ⟨b, cell _ _ hb⟩, hr3.ma.frozenAt pl, hr3, cell⟩
theorem rstart_busy (q gl gm cl cm : Nat) (vw v : Value) (S : Sp) (picks : List Int) (w : World) (h : HasR w q gl gm cl cm vw S) (ho : S.on = true) :
    Calls Try.prog 26 #[dptr q, v] w (RE w q gl gm cl cm vw (S.start picks)) := by
  have e : S.start picks = (S, 10) := by unfold Sp.start; rw [if_pos ho]
  rw [e]
  have c3 := h.c3
  rw [ho] at c3
  have HH := hid h
  clear e ho h
  unfold dptr
  go_enter Try.func26, Try.ntmps26
  go_wp2_with fail
  go_ret
  exact RE.same HH.out
set_option maxRecDepth 10000 in
set_option maxHeartbeats 2000000 in
theorem rstart_ok (q gl gm cl cm : Nat) (vw : Value) (S : Sp) (picks : List Int) (A : Option Addr) (cp D : Nat) (w : World) (h : HasR w q gl gm cl cm vw S) (ho : S.on = false) (hc : S.count ≤ 1048576)
    (hr : Rd w D A (ints picks)) (hp : ∀ x ∈ picks, x ≤ 9223372036854775807) (hpn : picks.length ≤ 9223372036854775807) (hA : picks ≠ [] → ∀ g o, A = some ⟨g, o, none⟩ → g ≠ gl ∧ g ≠ gm) :
    Calls Try.prog 26 #[dptr q, .slice A picks.length cp] w (RE w q gl gm cl cm vw (S.start picks)) := by
  rw [Sp.start_ok ho]
  have hway := h.wf.less
  have c3 := h.c3
  rw [ho] at c3
  have H1 := hid h
  have n1 := h.n1
  have n2 := h.n2
  have n3 := h.n3
  have n1' := Ne.symm h.n1
  have n2' := Ne.symm h.n2
  have n3' := Ne.symm h.n3
  have HRP := hid hr
  have HP := hid hp
  have HA := hid hA
  clear ho h hr hp hA
  unfold dptr at *
  go_enter Try.func26, Try.ntmps26
  go_wp2_with fail
  go_loopw [5] (fun i wr => ∃ k : Nat, k ≤ S.way.length ∧ i = .int .i64 k ∧ RndR wr gl gm cl cm S (pickOf picks) k ∧ Fr w wr [gl, gm]) (fun i _ => S.way.length - (intOf i).toNat)
  case atStart => exact ⟨0, by omega, rfl, ⟨H1.out.la, H1.out.ma⟩, Fr.refl _ _⟩
  case round =>
    obtain ⟨k, hk, rfl, hrd, hfr⟩ := hrel
    have hdk := hfr.row H1.out.disk (by simp; exact ⟨n1, n2⟩)
    have d0 := hdk.at_ 0 _ rfl
    have d1 := hdk.at_ 1 _ rfl
    have d2 := hdk.at_ 2 _ rfl
    have d3 := hdk.at_ 3 _ rfl
    have f2 := hdk.frozen 2
    have f3 := hdk.frozen 3
    by_cases hlt : k < S.way.length
    · obtain ⟨g, c', hv'⟩ := H1.out.wyShape (by omega)
      have hgb : vw.ownBlock = some g := by rw [hv']; rfl
      have hgl : g ≠ gl := fun e => H1.out.n5 (by rw [hgb, e])
      have hgm : g ≠ gm := fun e => H1.out.n6 (by rw [hgb, e])
      have hlg := Ne.symm hgl
      obtain ⟨x1, x2⟩ := H1.out.wc k hlt g c' hv'
      have hgw := hfr.block g (World.block_lt_of_cell? _ _ x1) (by simp; exact ⟨hgl, hgm⟩)
      have w1c : wr.cell? ⟨g, k * 2, none⟩ = some (.int .i64 (S.way[k].place : Int)) := (World.cell?_of_block (w := w) (a := ⟨g, k * 2, none⟩) hgw).trans x1
      have w2c : wr.cell? ⟨g, k * 2 + 1, none⟩ = some (str S.way[k].bytes) := (World.cell?_of_block (w := w) (a := ⟨g, k * 2 + 1, none⟩) hgw).trans x2
      rw [hv'] at d2
      have hpl := (H1.out.wf.way _ (List.getElem_mem hlt)).1
      have hpi : ((S.way[k].place : Nat) : Int) < (S.secs.length : Int) := by omega
      have hki : (k : Int) < (S.way.length : Int) := by omega
      have hi : S.way[k].place < (sett (pickOf picks) (S.way.take k) S.secs).length := by rw [sett_length]; exact hpl
      obtain ⟨l1, l2⟩ := hrd.lc _ hi
      have hby := (H1.out.wf.way _ (List.getElem_mem hlt)).2
      have hts : (sett (pickOf picks) (S.way.take k) S.secs)[S.way[k].place].lasts.length = 384 := sett_wf _ (pickOf_le picks) _ _ H1.out.wf.len (fun x hx => (H1.out.wf.way x (List.mem_of_mem_take hx)).2) _ (List.getElem_mem hi)
      have HNX := hid (fun wq hq => RndR.next (wr := wq) (gl := gl) (gm := gm) (cl := cl) (cm := cm) (S := S) (F := pickOf picks) (k := k) hq n3 hlt hi _ _ (mix_take _ _ _) rfl)
      have HNZ := hid (fun wq hq hm => RndR.next0 (wr := wq) (gl := gl) (gm := gm) (cl := cl) (cm := cm) (S := S) (F := pickOf picks) (k := k) hq n3 hlt hi _ (mix_take _ _ _) hm)
      simp only [takeD] at HNX HNZ
      obtain ⟨osec, hos⟩ : ∃ osec, (sett (pickOf picks) (S.way.take k) S.secs)[S.way[k].place] = osec := ⟨_, rfl⟩
      rw [hos] at l1 l2 hts HNX HNZ
      obtain ⟨pl, hpl2⟩ : ∃ pl, S.way[k].place = pl := ⟨_, rfl⟩
      obtain ⟨by_, hby2⟩ : ∃ b, S.way[k].bytes = b := ⟨_, rfl⟩
      obtain ⟨cc, hcc⟩ : ∃ cc, pickOf picks k = cc := ⟨_, rfl⟩
      have hcle : cc ≤ 384 := by rw [← hcc]; exact pickOf_le picks k
      rw [hcc] at HNX HNZ
      rw [hby2] at w2c hby HNX HNZ
      rw [hpl2] at l1 l2 w1c hpi HNX HNZ hpl
      have HRD := hid hrd
      have HFR := hid hfr
      have HCC := hid hcc
      clear hos hpl2 hby2 hcc hi hrd hgw x1 x2 hdk hv' hgb hfr
      by_cases hp0 : picks = []
      · subst hp0
        have hc0 : cc = 0 := by rw [← HCC.out]; rfl
        subst hc0
        unfold str at *
        go_wp2_with fail
        refine wp_region_held_drew (S := (fun w' => w'.cell? ⟨q, 0, none⟩ = some (.slice (some ⟨gl, 0, none⟩) S.secs.length cl) ∧ w'.cell? ⟨q, 2, none⟩ = some (.slice (some ⟨g, 0, none⟩) S.way.length c') ∧ w'.cell? ⟨g, k * 2 + 1, none⟩ = some (.string ⟨by_.toArray⟩))) (by kernel_rfl) ⟨d0, d2, w2c⟩ (fun hH => ?_)
        refine wpAnyH_take (i := 0) (v := .pointer (some ⟨q, 0, none⟩)) rfl (by kernel_rfl) (by kernel_rfl) (by kernel_rfl) (fun _ _ _ h => h) (Or.inl ⟨by rfl, fun w' hw' => by (try dsimp only at hw'); go_simp⟩) hH ?_
        simp only [Act.put]
        refine wpAnyH_take (i := 1) (v := .pointer (some ⟨q, 0, none⟩)) rfl (by kernel_rfl) (by kernel_rfl) (by kernel_rfl) (fun _ _ _ h => h) (Or.inl ⟨by rfl, fun w' hw' => by (try dsimp only at hw'); go_simp⟩) hH ?_
        simp only [Act.put]
        refine wpAnyH_take (i := 2) (v := .pointer (some ⟨q, 0, none⟩)) rfl (by kernel_rfl) (by kernel_rfl) (by kernel_rfl) (fun _ _ _ h => h) (Or.inl ⟨by rfl, fun w' hw' => by (try dsimp only at hw'); go_simp⟩) hH ?_
        simp only [Act.put]
        refine wpAnyH_take (i := 3) (v := .slice (some ⟨gl, 0, none⟩) S.secs.length cl) rfl (by kernel_rfl) (by kernel_rfl) (by kernel_rfl) (fun _ _ _ h => h) (Or.inl ⟨by rfl, fun w' hw' => by (try dsimp only at hw'); go_simp⟩) hH ?_
        simp only [Act.put]
        refine wpAnyH_take (i := 4) (v := .int .i64 (pl : Int)) rfl (by kernel_rfl) (by kernel_rfl) (by kernel_rfl) (fun _ _ _ h => h) (Or.inl ⟨by rfl, fun w' hw' => by (try dsimp only at hw'); go_simp⟩) hH ?_
        simp only [Act.put]
        refine wpAnyH_take (i := 5) (v := .pointer (some ⟨q, 0, none⟩)) rfl (by kernel_rfl) (by kernel_rfl) (by kernel_rfl) (fun _ _ _ h => h) (Or.inl ⟨by rfl, fun w' hw' => by (try dsimp only at hw'); go_simp⟩) hH ?_
        simp only [Act.put]
        refine wpAnyH_take (i := 6) (v := .pointer (some ⟨q, 0, none⟩)) rfl (by kernel_rfl) (by kernel_rfl) (by kernel_rfl) (fun _ _ _ h => h) (Or.inl ⟨by rfl, fun w' hw' => by (try dsimp only at hw'); go_simp⟩) hH ?_
        simp only [Act.put]
        refine wpAnyH_take (i := 7) (v := .pointer (some ⟨q, 2, none⟩)) rfl (by kernel_rfl) (by kernel_rfl) (by kernel_rfl) (fun _ _ _ h => h) (Or.inl ⟨by rfl, fun w' hw' => by (try dsimp only at hw'); go_simp⟩) hH ?_
        simp only [Act.put]
        refine wpAnyH_take (i := 8) (v := .slice (some ⟨g, 0, none⟩) S.way.length c') rfl (by kernel_rfl) (by kernel_rfl) (by kernel_rfl) (fun _ _ _ h => h) (Or.inl ⟨by rfl, fun w' hw' => by (try dsimp only at hw'); go_simp⟩) hH ?_
        simp only [Act.put]
        refine wpAnyH_take (i := 9) (v := .int .i64 (k : Int)) rfl (by kernel_rfl) (by kernel_rfl) (by kernel_rfl) (fun _ _ _ h => h) (Or.inl ⟨by rfl, fun w' hw' => by (try dsimp only at hw'); go_simp⟩) hH ?_
        simp only [Act.put]
        refine wpAnyH_take (i := 10) (v := .pointer (some ⟨g, k * 2, none⟩)) rfl (by kernel_rfl) (by kernel_rfl) (by kernel_rfl) (fun _ _ _ h => h) (Or.inl ⟨by rfl, fun w' hw' => by (try dsimp only at hw'); go_simp⟩) hH ?_
        simp only [Act.put]
        refine wpAnyH_take (i := 11) (v := .pointer (some ⟨g, k * 2 + 1, none⟩)) rfl (by kernel_rfl) (by kernel_rfl) (by kernel_rfl) (fun _ _ _ h => h) (Or.inl ⟨by rfl, fun w' hw' => by (try dsimp only at hw'); go_simp⟩) hH ?_
        simp only [Act.put]
        refine wpAnyH_take (i := 12) (v := .string ⟨by_.toArray⟩) rfl (by kernel_rfl) (by kernel_rfl) (by kernel_rfl) (fun _ _ _ h => h) (Or.inl ⟨by rfl, fun w' hw' => by (try dsimp only at hw'); go_simp⟩) hH ?_
        simp only [Act.put]
        refine wpAnyH_take (i := 13) (v := .pointer (some ⟨q, 0, none⟩)) rfl (by kernel_rfl) (by kernel_rfl) (by kernel_rfl) (fun _ _ _ h => h) (Or.inl ⟨by rfl, fun w' hw' => by (try dsimp only at hw'); go_simp⟩) hH ?_
        simp only [Act.put]
        refine wpAnyH_take (i := 14) (v := .pointer (some ⟨q, 0, none⟩)) rfl (by kernel_rfl) (by kernel_rfl) (by kernel_rfl) (fun _ _ _ h => h) (Or.inl ⟨by rfl, fun w' hw' => by (try dsimp only at hw'); go_simp⟩) hH ?_
        simp only [Act.put]
        refine wpAnyH_take (i := 15) (v := .pointer (some ⟨q, 0, none⟩)) rfl (by kernel_rfl) (by kernel_rfl) (by kernel_rfl) (fun _ _ _ h => h) (Or.inl ⟨by rfl, fun w' hw' => by (try dsimp only at hw'); go_simp⟩) hH ?_
        simp only [Act.put]
        refine wpAnyH_take (i := 16) (v := .slice (some ⟨gl, 0, none⟩) S.secs.length cl) rfl (by kernel_rfl) (by kernel_rfl) (by kernel_rfl) (fun _ _ _ h => h) (Or.inl ⟨by rfl, fun w' hw' => by (try dsimp only at hw'); go_simp⟩) hH ?_
        simp only [Act.put]
        refine wpAnyH_take (i := 17) (v := .int .i64 (pl : Int)) rfl (by kernel_rfl) (by kernel_rfl) (by kernel_rfl) (fun _ _ _ h => h) (Or.inl ⟨by rfl, fun w' hw' => by (try dsimp only at hw'); go_simp⟩) hH ?_
        simp only [Act.put]
        refine wpAnyH_take (i := 18) (v := .pointer (some ⟨gl, pl, none⟩)) rfl (by kernel_rfl) (by kernel_rfl) (by kernel_rfl) (fun _ _ _ h => h) (Or.inl ⟨by rfl, fun w' hw' => by (try dsimp only at hw'); go_simp⟩) hH ?_
        simp only [Act.put]
        refine wpAnyH_take (i := 20) (v := .int .i64 (0)) rfl (by kernel_rfl) (by kernel_rfl) (by kernel_rfl) (fun _ _ _ h => h) (Or.inl ⟨by rfl, fun w' hw' => by (try dsimp only at hw'); go_simp⟩) hH ?_
        simp only [Act.put]
        refine wpAnyH_ready (rs := [19]) (by kernel_rfl) (by simp) ?_
        refine AllReadyH.cons rfl (fun K hK => ?_) AllReadyH.nil
        go_simp
        refine hK.out _ _ hH (fun hH2 => ?_)
        clear hK K hH
        try simp only [Act.put]
        refine wpAnyH_ready (rs := [21]) (by kernel_rfl) (by simp) ?_
        refine AllReadyH.cons rfl (fun K hK => ?_) AllReadyH.nil
        go_simp
        go_at_call 57
        refine (mix_l by_ osec.lasts 0 _ hby hts (by decide)).mono ?_
        rintro e w3 ⟨rfl, hf3⟩
        obtain ⟨m0, m1, m2, m3, ⟨mb, m4⟩, m5, m6, m9⟩ := mix_facts HRD.out hf3 d0 d1 l1 ⟨_, l2⟩
        have m7 := m9 _ _ d2
        have m8 := m9 _ _ w2c
        have HR3 := hid m6
        have HF3 := hid hf3
        clear m6 hf3 m9
        unfold str
        go_wp2_with fail
        refine hK.out _ _ ⟨m0, m7, m8⟩ (fun hH3 => ?_)
        clear hK K hH2
        try simp only [Act.put]
        refine wpAnyH_take (i := 22) (v := .pointer (some ⟨gl, pl, none⟩)) rfl (by kernel_rfl) (by kernel_rfl) (by kernel_rfl) (fun _ _ _ h => h) (Or.inl ⟨by rfl, fun w' hw' => by (try dsimp only at hw'); go_simp⟩) hH3 ?_
        try simp only [Act.put]
        refine wpAnyH_ready (rs := [23]) (by kernel_rfl) (by simp) ?_
        refine AllReadyH.cons rfl (fun K hK => ?_) AllReadyH.nil
        go_simp
        refine hK.out _ _ ⟨(World.cell?_setCell_far _ _ _ _ n1').trans m0, (World.cell?_setCell_far _ _ _ _ n1').trans m7, (World.cell?_setCell_far _ _ _ _ hlg).trans m8⟩ (fun hH4 => ?_)
        clear hK K hH3
        try simp only [Act.put]
        refine wpAnyH_done (by kernel_rfl) ?_ _
        clear hH4
        go_wp2_with fail
        go_roundw
        case rel => (repeat apply Exists.intro); exact ⟨⟨k + 1, by omega, by go_num, HNZ.out _ HR3.out (by simp), (HFR.out.trans HF3.out.undrew (by simp)).setCell (p := ⟨gl, pl, none⟩) (by simp) _⟩, rfl⟩
        case measure => simp [intOf]; omega
      · have hn : 0 < picks.length := List.length_pos_iff.2 hp0
        have hm : k % picks.length < picks.length := Nat.mod_lt _ hn
        obtain ⟨pg, po, hpa, _, hpc⟩ := HRP.out.at_ (j := k % picks.length) (by rw [ints_len]; exact hm)
        obtain ⟨pn1, pn2⟩ := HA.out hp0 pg po hpa
        obtain ⟨x, hx⟩ : ∃ x, picks[k % picks.length] = x := ⟨_, rfl⟩
        have hx2 : x ≤ 9223372036854775807 := by rw [← hx]; exact HP.out _ (List.getElem_mem hm)
        have hpc2 : w.cell? ⟨pg, po + k % picks.length, none⟩ = some (.int .i64 x) := by
          rw [hpc]
          simp [ints, hx]
        have hpcw : wr.cell? ⟨pg, po + k % picks.length, none⟩ = some (.int .i64 x) := (World.cell?_of_block (w := w) (a := ⟨pg, po + k % picks.length, none⟩) (HFR.out.block pg (World.block_lt_of_cell? _ _ hpc2) (by simp; exact ⟨pn1, pn2⟩))).trans hpc2
        have hkx : keptS x = cc := by
          rw [← HCC.out]
          unfold pickOf
          rw [if_neg hp0]
          simp [hm, hx]
        subst hpa
        have g1 : ((picks.length : Int) == 0) = false := by simp; omega
        have g2 : ¬ picks.length = 0 := by omega
        have g0 : 0 < (picks.length : Int) := by omega
        have g3 : (k : Int) % (picks.length : Int) < (picks.length : Int) := Int.emod_lt_of_pos _ (by omega)
        have g4 : 0 ≤ (k : Int) % (picks.length : Int) := Int.emod_nonneg _ (by omega)
        have g5 : ((k : Int) % (picks.length : Int)).toNat = k % picks.length := by rw [← Int.natCast_emod]; rfl
        have g6 : (k : Int).tmod (picks.length : Int) = (k : Int) % (picks.length : Int) := Int.tmod_eq_emod_of_nonneg (by omega)
        clear hpc hpc2 hx hp0 pn1 pn2 hn
        unfold str at *
        by_cases hc0 : cc = 0
        · subst hc0
          go_wp2_with (go_at_call 56; refine (rkept_any x _ hx2).mono ?_; rintro e w4 ⟨rfl, rfl⟩)
          refine wp_region_held_drew (S := (fun w' => w'.cell? ⟨q, 0, none⟩ = some (.slice (some ⟨gl, 0, none⟩) S.secs.length cl) ∧ w'.cell? ⟨q, 2, none⟩ = some (.slice (some ⟨g, 0, none⟩) S.way.length c') ∧ w'.cell? ⟨g, k * 2 + 1, none⟩ = some (.string ⟨by_.toArray⟩))) (by kernel_rfl) ⟨d0, d2, w2c⟩ (fun hH => ?_)
          refine wpAnyH_take (i := 0) (v := .pointer (some ⟨q, 0, none⟩)) rfl (by kernel_rfl) (by kernel_rfl) (by kernel_rfl) (fun _ _ _ h => h) (Or.inl ⟨by rfl, fun w' hw' => by (try dsimp only at hw'); go_simp⟩) hH ?_
          simp only [Act.put]
          refine wpAnyH_take (i := 1) (v := .pointer (some ⟨q, 0, none⟩)) rfl (by kernel_rfl) (by kernel_rfl) (by kernel_rfl) (fun _ _ _ h => h) (Or.inl ⟨by rfl, fun w' hw' => by (try dsimp only at hw'); go_simp⟩) hH ?_
          simp only [Act.put]
          refine wpAnyH_take (i := 2) (v := .pointer (some ⟨q, 0, none⟩)) rfl (by kernel_rfl) (by kernel_rfl) (by kernel_rfl) (fun _ _ _ h => h) (Or.inl ⟨by rfl, fun w' hw' => by (try dsimp only at hw'); go_simp⟩) hH ?_
          simp only [Act.put]
          refine wpAnyH_take (i := 3) (v := .slice (some ⟨gl, 0, none⟩) S.secs.length cl) rfl (by kernel_rfl) (by kernel_rfl) (by kernel_rfl) (fun _ _ _ h => h) (Or.inl ⟨by rfl, fun w' hw' => by (try dsimp only at hw'); go_simp⟩) hH ?_
          simp only [Act.put]
          refine wpAnyH_take (i := 4) (v := .int .i64 (pl : Int)) rfl (by kernel_rfl) (by kernel_rfl) (by kernel_rfl) (fun _ _ _ h => h) (Or.inl ⟨by rfl, fun w' hw' => by (try dsimp only at hw'); go_simp⟩) hH ?_
          simp only [Act.put]
          refine wpAnyH_take (i := 5) (v := .pointer (some ⟨q, 0, none⟩)) rfl (by kernel_rfl) (by kernel_rfl) (by kernel_rfl) (fun _ _ _ h => h) (Or.inl ⟨by rfl, fun w' hw' => by (try dsimp only at hw'); go_simp⟩) hH ?_
          simp only [Act.put]
          refine wpAnyH_take (i := 6) (v := .pointer (some ⟨q, 0, none⟩)) rfl (by kernel_rfl) (by kernel_rfl) (by kernel_rfl) (fun _ _ _ h => h) (Or.inl ⟨by rfl, fun w' hw' => by (try dsimp only at hw'); go_simp⟩) hH ?_
          simp only [Act.put]
          refine wpAnyH_take (i := 7) (v := .pointer (some ⟨q, 2, none⟩)) rfl (by kernel_rfl) (by kernel_rfl) (by kernel_rfl) (fun _ _ _ h => h) (Or.inl ⟨by rfl, fun w' hw' => by (try dsimp only at hw'); go_simp⟩) hH ?_
          simp only [Act.put]
          refine wpAnyH_take (i := 8) (v := .slice (some ⟨g, 0, none⟩) S.way.length c') rfl (by kernel_rfl) (by kernel_rfl) (by kernel_rfl) (fun _ _ _ h => h) (Or.inl ⟨by rfl, fun w' hw' => by (try dsimp only at hw'); go_simp⟩) hH ?_
          simp only [Act.put]
          refine wpAnyH_take (i := 9) (v := .int .i64 (k : Int)) rfl (by kernel_rfl) (by kernel_rfl) (by kernel_rfl) (fun _ _ _ h => h) (Or.inl ⟨by rfl, fun w' hw' => by (try dsimp only at hw'); go_simp⟩) hH ?_
          simp only [Act.put]
          refine wpAnyH_take (i := 10) (v := .pointer (some ⟨g, k * 2, none⟩)) rfl (by kernel_rfl) (by kernel_rfl) (by kernel_rfl) (fun _ _ _ h => h) (Or.inl ⟨by rfl, fun w' hw' => by (try dsimp only at hw'); go_simp⟩) hH ?_
          simp only [Act.put]
          refine wpAnyH_take (i := 11) (v := .pointer (some ⟨g, k * 2 + 1, none⟩)) rfl (by kernel_rfl) (by kernel_rfl) (by kernel_rfl) (fun _ _ _ h => h) (Or.inl ⟨by rfl, fun w' hw' => by (try dsimp only at hw'); go_simp⟩) hH ?_
          simp only [Act.put]
          refine wpAnyH_take (i := 12) (v := .string ⟨by_.toArray⟩) rfl (by kernel_rfl) (by kernel_rfl) (by kernel_rfl) (fun _ _ _ h => h) (Or.inl ⟨by rfl, fun w' hw' => by (try dsimp only at hw'); go_simp⟩) hH ?_
          simp only [Act.put]
          refine wpAnyH_take (i := 13) (v := .pointer (some ⟨q, 0, none⟩)) rfl (by kernel_rfl) (by kernel_rfl) (by kernel_rfl) (fun _ _ _ h => h) (Or.inl ⟨by rfl, fun w' hw' => by (try dsimp only at hw'); go_simp⟩) hH ?_
          simp only [Act.put]
          refine wpAnyH_take (i := 14) (v := .pointer (some ⟨q, 0, none⟩)) rfl (by kernel_rfl) (by kernel_rfl) (by kernel_rfl) (fun _ _ _ h => h) (Or.inl ⟨by rfl, fun w' hw' => by (try dsimp only at hw'); go_simp⟩) hH ?_
          simp only [Act.put]
          refine wpAnyH_take (i := 15) (v := .pointer (some ⟨q, 0, none⟩)) rfl (by kernel_rfl) (by kernel_rfl) (by kernel_rfl) (fun _ _ _ h => h) (Or.inl ⟨by rfl, fun w' hw' => by (try dsimp only at hw'); go_simp⟩) hH ?_
          simp only [Act.put]
          refine wpAnyH_take (i := 16) (v := .slice (some ⟨gl, 0, none⟩) S.secs.length cl) rfl (by kernel_rfl) (by kernel_rfl) (by kernel_rfl) (fun _ _ _ h => h) (Or.inl ⟨by rfl, fun w' hw' => by (try dsimp only at hw'); go_simp⟩) hH ?_
          simp only [Act.put]
          refine wpAnyH_take (i := 17) (v := .int .i64 (pl : Int)) rfl (by kernel_rfl) (by kernel_rfl) (by kernel_rfl) (fun _ _ _ h => h) (Or.inl ⟨by rfl, fun w' hw' => by (try dsimp only at hw'); go_simp⟩) hH ?_
          simp only [Act.put]
          refine wpAnyH_take (i := 18) (v := .pointer (some ⟨gl, pl, none⟩)) rfl (by kernel_rfl) (by kernel_rfl) (by kernel_rfl) (fun _ _ _ h => h) (Or.inl ⟨by rfl, fun w' hw' => by (try dsimp only at hw'); go_simp⟩) hH ?_
          simp only [Act.put]
          refine wpAnyH_take (i := 20) (v := .int .i64 (0)) rfl (by kernel_rfl) (by kernel_rfl) (by kernel_rfl) (fun _ _ _ h => h) (Or.inl ⟨by rfl, fun w' hw' => by (try dsimp only at hw'); go_simp⟩) hH ?_
          simp only [Act.put]
          refine wpAnyH_ready (rs := [19]) (by kernel_rfl) (by simp) ?_
          refine AllReadyH.cons rfl (fun K hK => ?_) AllReadyH.nil
          go_simp
          refine hK.out _ _ hH (fun hH2 => ?_)
          clear hK K hH
          try simp only [Act.put]
          refine wpAnyH_ready (rs := [21]) (by kernel_rfl) (by simp) ?_
          refine AllReadyH.cons rfl (fun K hK => ?_) AllReadyH.nil
          go_simp
          go_at_call 57
          refine (mix_l by_ osec.lasts 0 _ hby hts (by decide)).mono ?_
          rintro e w3 ⟨rfl, hf3⟩
          obtain ⟨m0, m1, m2, m3, ⟨mb, m4⟩, m5, m6, m9⟩ := mix_facts HRD.out hf3 d0 d1 l1 ⟨_, l2⟩
          have m7 := m9 _ _ d2
          have m8 := m9 _ _ w2c
          have HR3 := hid m6
          have HF3 := hid hf3
          clear m6 hf3 m9
          unfold str
          go_wp2_with fail
          refine hK.out _ _ ⟨m0, m7, m8⟩ (fun hH3 => ?_)
          clear hK K hH2
          try simp only [Act.put]
          refine wpAnyH_take (i := 22) (v := .pointer (some ⟨gl, pl, none⟩)) rfl (by kernel_rfl) (by kernel_rfl) (by kernel_rfl) (fun _ _ _ h => h) (Or.inl ⟨by rfl, fun w' hw' => by (try dsimp only at hw'); go_simp⟩) hH3 ?_
          try simp only [Act.put]
          refine wpAnyH_ready (rs := [23]) (by kernel_rfl) (by simp) ?_
          refine AllReadyH.cons rfl (fun K hK => ?_) AllReadyH.nil
          go_simp
          refine hK.out _ _ ⟨(World.cell?_setCell_far _ _ _ _ n1').trans m0, (World.cell?_setCell_far _ _ _ _ n1').trans m7, (World.cell?_setCell_far _ _ _ _ hlg).trans m8⟩ (fun hH4 => ?_)
          clear hK K hH3
          try simp only [Act.put]
          refine wpAnyH_done (by kernel_rfl) ?_ _
          clear hH4
          go_wp2_with fail
          go_roundw
          case rel => exact ⟨k + 1, by omega, by go_num, HNZ.out _ HR3.out (by simp), (HFR.out.trans HF3.out.undrew (by simp)).setCell (p := ⟨gl, pl, none⟩) (by simp) _⟩
          case measure => simp [intOf]; omega
        · have hcp : 0 < (cc : Int) := by omega
          have hcd : (decide (cc < 384)) = decide ((cc : Int) < 384) := by rw [decide_eq_decide]; omega
          rw [if_neg hc0, hcd] at HNX
          clear hc0 hcd HNZ
          go_wp2_with (go_at_call 56; refine (rkept_any x _ hx2).mono ?_; rintro e w4 ⟨rfl, rfl⟩)
          refine wp_region_held_drew (S := (fun w' => w'.cell? ⟨q, 0, none⟩ = some (.slice (some ⟨gl, 0, none⟩) S.secs.length cl) ∧ w'.cell? ⟨q, 2, none⟩ = some (.slice (some ⟨g, 0, none⟩) S.way.length c') ∧ w'.cell? ⟨g, k * 2 + 1, none⟩ = some (.string ⟨by_.toArray⟩))) (by kernel_rfl) ⟨d0, d2, w2c⟩ (fun hH => ?_)
          refine wpAnyH_take (i := 0) (v := .pointer (some ⟨q, 0, none⟩)) rfl (by kernel_rfl) (by kernel_rfl) (by kernel_rfl) (fun _ _ _ h => h) (Or.inl ⟨by rfl, fun w' hw' => by (try dsimp only at hw'); go_simp⟩) hH ?_
          simp only [Act.put]
          refine wpAnyH_take (i := 1) (v := .pointer (some ⟨q, 0, none⟩)) rfl (by kernel_rfl) (by kernel_rfl) (by kernel_rfl) (fun _ _ _ h => h) (Or.inl ⟨by rfl, fun w' hw' => by (try dsimp only at hw'); go_simp⟩) hH ?_
          simp only [Act.put]
          refine wpAnyH_take (i := 2) (v := .pointer (some ⟨q, 0, none⟩)) rfl (by kernel_rfl) (by kernel_rfl) (by kernel_rfl) (fun _ _ _ h => h) (Or.inl ⟨by rfl, fun w' hw' => by (try dsimp only at hw'); go_simp⟩) hH ?_
          simp only [Act.put]
          refine wpAnyH_take (i := 3) (v := .slice (some ⟨gl, 0, none⟩) S.secs.length cl) rfl (by kernel_rfl) (by kernel_rfl) (by kernel_rfl) (fun _ _ _ h => h) (Or.inl ⟨by rfl, fun w' hw' => by (try dsimp only at hw'); go_simp⟩) hH ?_
          simp only [Act.put]
          refine wpAnyH_take (i := 4) (v := .int .i64 (pl : Int)) rfl (by kernel_rfl) (by kernel_rfl) (by kernel_rfl) (fun _ _ _ h => h) (Or.inl ⟨by rfl, fun w' hw' => by (try dsimp only at hw'); go_simp⟩) hH ?_
          simp only [Act.put]
          refine wpAnyH_take (i := 5) (v := .pointer (some ⟨q, 0, none⟩)) rfl (by kernel_rfl) (by kernel_rfl) (by kernel_rfl) (fun _ _ _ h => h) (Or.inl ⟨by rfl, fun w' hw' => by (try dsimp only at hw'); go_simp⟩) hH ?_
          simp only [Act.put]
          refine wpAnyH_take (i := 6) (v := .pointer (some ⟨q, 0, none⟩)) rfl (by kernel_rfl) (by kernel_rfl) (by kernel_rfl) (fun _ _ _ h => h) (Or.inl ⟨by rfl, fun w' hw' => by (try dsimp only at hw'); go_simp⟩) hH ?_
          simp only [Act.put]
          refine wpAnyH_take (i := 7) (v := .pointer (some ⟨q, 2, none⟩)) rfl (by kernel_rfl) (by kernel_rfl) (by kernel_rfl) (fun _ _ _ h => h) (Or.inl ⟨by rfl, fun w' hw' => by (try dsimp only at hw'); go_simp⟩) hH ?_
          simp only [Act.put]
          refine wpAnyH_take (i := 8) (v := .slice (some ⟨g, 0, none⟩) S.way.length c') rfl (by kernel_rfl) (by kernel_rfl) (by kernel_rfl) (fun _ _ _ h => h) (Or.inl ⟨by rfl, fun w' hw' => by (try dsimp only at hw'); go_simp⟩) hH ?_
          simp only [Act.put]
          refine wpAnyH_take (i := 9) (v := .int .i64 (k : Int)) rfl (by kernel_rfl) (by kernel_rfl) (by kernel_rfl) (fun _ _ _ h => h) (Or.inl ⟨by rfl, fun w' hw' => by (try dsimp only at hw'); go_simp⟩) hH ?_
          simp only [Act.put]
          refine wpAnyH_take (i := 10) (v := .pointer (some ⟨g, k * 2, none⟩)) rfl (by kernel_rfl) (by kernel_rfl) (by kernel_rfl) (fun _ _ _ h => h) (Or.inl ⟨by rfl, fun w' hw' => by (try dsimp only at hw'); go_simp⟩) hH ?_
          simp only [Act.put]
          refine wpAnyH_take (i := 11) (v := .pointer (some ⟨g, k * 2 + 1, none⟩)) rfl (by kernel_rfl) (by kernel_rfl) (by kernel_rfl) (fun _ _ _ h => h) (Or.inl ⟨by rfl, fun w' hw' => by (try dsimp only at hw'); go_simp⟩) hH ?_
          simp only [Act.put]
          refine wpAnyH_take (i := 12) (v := .string ⟨by_.toArray⟩) rfl (by kernel_rfl) (by kernel_rfl) (by kernel_rfl) (fun _ _ _ h => h) (Or.inl ⟨by rfl, fun w' hw' => by (try dsimp only at hw'); go_simp⟩) hH ?_
          simp only [Act.put]
          refine wpAnyH_take (i := 13) (v := .pointer (some ⟨q, 0, none⟩)) rfl (by kernel_rfl) (by kernel_rfl) (by kernel_rfl) (fun _ _ _ h => h) (Or.inl ⟨by rfl, fun w' hw' => by (try dsimp only at hw'); go_simp⟩) hH ?_
          simp only [Act.put]
          refine wpAnyH_take (i := 14) (v := .pointer (some ⟨q, 0, none⟩)) rfl (by kernel_rfl) (by kernel_rfl) (by kernel_rfl) (fun _ _ _ h => h) (Or.inl ⟨by rfl, fun w' hw' => by (try dsimp only at hw'); go_simp⟩) hH ?_
          simp only [Act.put]
          refine wpAnyH_take (i := 15) (v := .pointer (some ⟨q, 0, none⟩)) rfl (by kernel_rfl) (by kernel_rfl) (by kernel_rfl) (fun _ _ _ h => h) (Or.inl ⟨by rfl, fun w' hw' => by (try dsimp only at hw'); go_simp⟩) hH ?_
          simp only [Act.put]
          refine wpAnyH_take (i := 16) (v := .slice (some ⟨gl, 0, none⟩) S.secs.length cl) rfl (by kernel_rfl) (by kernel_rfl) (by kernel_rfl) (fun _ _ _ h => h) (Or.inl ⟨by rfl, fun w' hw' => by (try dsimp only at hw'); go_simp⟩) hH ?_
          simp only [Act.put]
          refine wpAnyH_take (i := 17) (v := .int .i64 (pl : Int)) rfl (by kernel_rfl) (by kernel_rfl) (by kernel_rfl) (fun _ _ _ h => h) (Or.inl ⟨by rfl, fun w' hw' => by (try dsimp only at hw'); go_simp⟩) hH ?_
          simp only [Act.put]
          refine wpAnyH_take (i := 18) (v := .pointer (some ⟨gl, pl, none⟩)) rfl (by kernel_rfl) (by kernel_rfl) (by kernel_rfl) (fun _ _ _ h => h) (Or.inl ⟨by rfl, fun w' hw' => by (try dsimp only at hw'); go_simp⟩) hH ?_
          simp only [Act.put]
          refine wpAnyH_take (i := 20) (v := .int .i64 ((cc : Int))) rfl (by kernel_rfl) (by kernel_rfl) (by kernel_rfl) (fun _ _ _ h => h) (Or.inl ⟨by rfl, fun w' hw' => by (try dsimp only at hw'); go_simp⟩) hH ?_
          simp only [Act.put]
          refine wpAnyH_ready (rs := [19]) (by kernel_rfl) (by simp) ?_
          refine AllReadyH.cons rfl (fun K hK => ?_) AllReadyH.nil
          go_simp
          refine hK.out _ _ hH (fun hH2 => ?_)
          clear hK K hH
          try simp only [Act.put]
          refine wpAnyH_ready (rs := [21]) (by kernel_rfl) (by simp) ?_
          refine AllReadyH.cons rfl (fun K hK => ?_) AllReadyH.nil
          go_simp
          go_at_call 57
          refine (mix_l by_ osec.lasts cc _ hby hts hcle).mono ?_
          rintro e w3 ⟨rfl, hf3⟩
          obtain ⟨m0, m1, m2, m3, ⟨mb, m4⟩, m5, m6, m9⟩ := mix_facts HRD.out hf3 d0 d1 l1 ⟨_, l2⟩
          have m7 := m9 _ _ d2
          have m8 := m9 _ _ w2c
          have HR3 := hid m6
          have HF3 := hid hf3
          clear m6 hf3 m9
          unfold str
          go_wp2_with fail
          refine hK.out _ _ ⟨m0, m7, m8⟩ (fun hH3 => ?_)
          clear hK K hH2
          try simp only [Act.put]
          refine wpAnyH_take (i := 22) (v := .pointer (some ⟨gl, pl, none⟩)) rfl (by kernel_rfl) (by kernel_rfl) (by kernel_rfl) (fun _ _ _ h => h) (Or.inl ⟨by rfl, fun w' hw' => by (try dsimp only at hw'); go_simp⟩) hH3 ?_
          try simp only [Act.put]
          refine wpAnyH_ready (rs := [23]) (by kernel_rfl) (by simp) ?_
          refine AllReadyH.cons rfl (fun K hK => ?_) AllReadyH.nil
          go_simp
          refine hK.out _ _ ⟨(World.cell?_setCell_far _ _ _ _ n1').trans m0, (World.cell?_setCell_far _ _ _ _ n1').trans m7, (World.cell?_setCell_far _ _ _ _ hlg).trans m8⟩ (fun hH4 => ?_)
          clear hK K hH3
          try simp only [Act.put]
          refine wpAnyH_done (by kernel_rfl) ?_ _
          clear hH4
          go_wp2_with fail
          go_roundw
          case rel => exact ⟨k + 1, by omega, by go_num, HNX.out _ HR3.out, ((HFR.out.trans HF3.out.undrew (by simp)).setCell (p := ⟨gl, pl, none⟩) (by simp) _).setCell (p := ⟨gm, pl, none⟩) (by simp) _⟩
          case measure => simp [intOf]; omega
    · obtain rfl : k = S.way.length := by omega
      have HE := hid (HasR.settled (F := pickOf picks) (pickOf_le picks) H1.out hfr hrd)
      obtain ⟨A', c, hv⟩ := vw_shape H1.out.wy
      rw [hv] at d2
      clear hrd hfr hv hdk
      have hs2 := HE.out.1
      have hfx : Fr (wr.setCell ⟨q, 2, none⟩ (.slice none 0 0)) ((wr.setCell ⟨q, 2, none⟩ (.slice none 0 0)).setCell ⟨q, 3, none⟩ (.bool false)) [q] := (Fr.refl _ [q]).setCell (p := ⟨q, 3, none⟩) (by simp) _
      have HX := hid (hs2.put (o2 := true) (l := S.left) (c := S.count) hfx (hs2.disk.set_ 3 _) H1.out.wf.left (by simp))
      have HFX := hid hfx
      clear hs2 hfx
      go_wp2_with fail
      go_ret
      exact ⟨.slice none 0 0, rfl, HX.out, HE.out.2.trans (HFX.out.mono (by simp [fpR])) (fun b hb _ => hb), fun g hg => by simp [Value.ownBlock] at hg⟩
end Go.Proofs.Ytogchfpecbmocaa
/-
  The answer's own disk: Rot.
-/
namespace Go.Proofs.Ytogchfpecbmocaa
open Go.RowKit

theorem rot_text (b : List UInt8) (a : Nat) (y : UInt8) (ha : a < b.length) : (ByteArray.mk b.toArray).extract 0 a ++ ByteArray.mk #[y] ++ (ByteArray.mk b.toArray).extract (a + 1) b.length = ByteArray.mk (b.set a y).toArray := by
  apply ByteArray.ext
  apply Array.toList_inj.1
  simp only [ByteArray.data_append, ByteArray.data_extract, Array.toList_append, Array.toList_extract]
  rw [List.set_eq_take_append_cons_drop, if_pos ha]
  simp
  rw [List.take_of_length_le (by simp)]
theorem one_str (w : World) (x : UInt8) (m : Nat) (hm : m ≤ 255) :
    (convert 69 9 (.slice (some ⟨w.heap.size, 0, none⟩) 1 1)).run Try.prog (w.alloc (.cells #[.int .u8 (bits .xor .u8 (x.toNat : Int) (m : Int))] 5)).drew =
      .ok (.string ⟨#[x ^^^ UInt8.ofNat m]⟩) (w.alloc (.cells #[.int .u8 (bits .xor .u8 (x.toNat : Int) (m : Int))] 5)).drew := by
  refine run_str _ 69 5 Try.underlying69 Try.underlying5 9 Try.underlying9 (w.heap.size + 1) _ [x ^^^ UInt8.ofNat m] 1 1 rfl ?_
  intro _
  refine ⟨w.heap.size, 0, rfl, by omega, ?_⟩
  intro j u hu
  have h0 := Row.new w 5 #[.int .u8 (bits .xor .u8 (x.toNat : Int) (m : Int))]
  match j, hu with
  | 0, hu =>
    have e : Value.int .u8 (bits .xor .u8 (x.toNat : Int) (m : Int)) = bv (x ^^^ UInt8.ofNat m) := by rw [xor_byte x m hm]; rfl
    have hu' : bv (x ^^^ UInt8.ofNat m) = u := by simpa [bvs] using hu
    rw [← hu', ← e]
    exact h0.at_ 0 _ rfl
/-- behind the stores of a byte that is turned -/
theorem rrot_end {w w1 : World} {q gl gm cl cm : Nat} {vw : Value} {S : Sp} {k a m : Nat} (h : HasR w q gl gm cl cm vw S) (hf : Fr w w1 []) (hk : k < S.secs.length) (y : UInt8) (hy : y = S.secs[k].lasts.getD a 0 ^^^ UInt8.ofNat m) :
    let w2 := (w1.setCell ⟨gl, k, none⟩ (str (S.secs[k].lasts.set a y))).setCell ⟨gm, k, none⟩ (.bool true)
    HasR w2 q gl gm cl cm vw { S with secs := S.secs.modify k (fun s => turnS s a m) } ∧ Fr w w2 (fpR q gl gm vw) := by
  intro w2
  have h1 := h.fr hf (by simp)
  have hl := h.wf.len _ (List.getElem_mem hk)
  have e : S.secs.modify k (fun s => turnS s a m) = S.secs.set k ⟨S.secs[k].lasts.set a y, true⟩ := by
    apply List.ext_getElem?
    intro j
    rw [List.getElem?_modify, List.getElem?_set]
    by_cases hj : k = j
    · subst hj
      simp [hk, turnS, hy]
    · simp [hj]
  have fr2 : Fr w1 w2 [gl, gm] := ((Fr.refl w1 [gl, gm]).setCell (p := ⟨gl, k, none⟩) (by simp) _).setCell (p := ⟨gm, k, none⟩) (by simp) _
  have s1 := h1.la.stored k (str (S.secs[k].lasts.set a y))
  have m1 := (Fr.setCell (Fr.refl w1 [gl]) (p := ⟨gl, k, none⟩) (by simp) (str (S.secs[k].lasts.set a y))).own h1.ma (fun g hg => by cases hg; simpa using Ne.symm h1.n3)
  have m2 := (m1.stored k (.bool true)).1
  have s2 := (Fr.setCell (Fr.refl (w1.setCell ⟨gl, k, none⟩ (str (S.secs[k].lasts.set a y))) [gm]) (p := ⟨gm, k, none⟩) (by simp) (.bool true)).own s1.1 (fun g hg => by cases hg; simpa using h1.n3)
  rw [e]
  have el : laCells { S with secs := S.secs.set k ⟨S.secs[k].lasts.set a y, true⟩ } = (laCells S).set k (str (S.secs[k].lasts.set a y)) := by simp [laCells, List.map_set]
  have em : maCells { S with secs := S.secs.set k ⟨S.secs[k].lasts.set a y, true⟩ } = (maCells S).set k (.bool true) := by simp [maCells, List.map_set]
  refine ⟨⟨?_, ?_, ?_, fr2.own h1.wy (fun g hg => by simp; exact ⟨fun e => h1.n5 (by rw [hg, e]), fun e => h1.n6 (by rw [hg, e])⟩), h1.n1, h1.n2, h1.n3, h1.n4, h1.n5, h1.n6, ?_⟩, (hf.mono (fq := fpR q gl gm vw) (by simp)).trans fr2 (by simp [fpR])⟩
  · simpa using fr2.row h1.disk (by simp; exact ⟨h1.n1, h1.n2⟩)
  · rw [el]
    simpa using s2
  · rw [em]
    simpa using m2
  · refine ⟨set_wf S.secs h.wf.len k _ (by simpa using hl), ?_, by simpa using h.wf.few, h.wf.left, h.wf.less⟩
    intro z hz
    simpa using h.wf.way z hz
theorem rot_eq (S : Sp) (k a m : Nat) (hk : k < S.secs.length) (ha : a < 384) (hm : 1 ≤ m) (hm2 : m ≤ 255) :
    S.rot k a m = if newest S.way k ≠ 0 then (S, 10) else if S.secs[k].marked = true then (S, 7) else ({ S with secs := S.secs.modify k (fun s => turnS s a m) }, 0) := by
  unfold Sp.rot
  have hb : ¬ (¬ S.is (k : Int) ∨ (a : Int) < 0 ∨ 384 ≤ (a : Int) ∨ (m : Int) < 1 ∨ 255 < (m : Int)) := by
    rintro (h | h)
    · exact h ⟨by omega, by omega⟩
    · omega
  rw [if_neg hb]
  simp [hk]
theorem newest_no {way : List Wr} {k : Nat} (h : ∀ x ∈ way, x.place ≠ k) : newest way k = 0 := by
  rcases newest_get way k [] with ⟨h1, _, _⟩ | ⟨j, _, hj, h2, _⟩
  · exact h1
  · exact absurd h2 (h _ (List.getElem_mem hj))
theorem newest_is {way : List Wr} {k j : Nat} (hj : j < way.length) (h : way[j].place = k) : newest way k ≠ 0 := by
  rcases newest_get way k [] with ⟨_, _, h3⟩ | ⟨i, h1, _⟩
  · exact absurd h (h3 _ (List.getElem_mem hj))
  · omega
set_option maxRecDepth 10000 in
set_option maxHeartbeats 2000000 in
theorem rrot_in (q gl gm cl cm : Nat) (vw : Value) (S : Sp) (k a m : Nat) (w : World) (h : HasR w q gl gm cl cm vw S) (hk : k < S.secs.length) (ha : a < 384) (hm : 1 ≤ m) (hm2 : m ≤ 255) (hc : S.count ≤ 1048576) :
    Calls Try.prog 28 #[dptr q, .int .i64 (k : Int), .int .i64 (a : Int), .int .i64 (m : Int)] w (RE w q gl gm cl cm vw (S.rot k a m)) := by
  have c0 := h.c0
  have c1 := h.c1
  have c2 := h.c2
  have lc := h.lc k hk
  have mc := h.mc k hk
  have hway := h.wf.less
  have n1 := h.n1
  have n2 := h.n2
  have n3 := h.n3
  have n1' := Ne.symm h.n1
  have n2' := Ne.symm h.n2
  have n3' := Ne.symm h.n3
  have HE := hid (rot_eq S k a m hk ha hm hm2)
  obtain ⟨A, c, hv⟩ := vw_shape h.wy
  rw [hv] at c2
  have HV := hid hv
  have hki : (k : Int) < (S.secs.length : Int) := by omega
  have HIS := ris_any k q gl gm cl cm vw S w h
  rw [show decide (S.is k) = true from decide_eq_true ⟨by omega, by omega⟩] at HIS
  have HI := hid HIS
  have HH := hid h
  clear hv HIS h
  unfold dptr str at *
  go_enter Try.func28, Try.ntmps28
  go_wp2_with (go_at_call 59; refine HI.out.mono ?_; rintro e w1 ⟨rfl, rfl⟩)
  go_loop [9] (fun j => ∃ jj : Nat, jj ≤ S.way.length ∧ j = .int .i64 jj ∧ ∀ x ∈ S.way.take jj, x.place ≠ k) (fun j => S.way.length - (intOf j).toNat)
  case atStart => exact ⟨0, by omega, rfl, by simp⟩
  case round =>
    obtain ⟨j, hj, rfl, hno⟩ := hrel
    have HNO := hid hno
    clear hno
    by_cases hlt : j < S.way.length
    · obtain ⟨g, c', hv'⟩ := HH.out.wyShape (by omega)
      obtain ⟨w1, w2⟩ := HH.out.wc j hlt g c' hv'
      have hva := HV.out
      rw [hv'] at hva
      cases hva
      have hji : (j : Int) < (S.way.length : Int) := by omega
      unfold str at w2
      clear hv'
      by_cases hp : S.way[j].place = k
      · have hpb : (((S.way[j].place : Nat) : Int) == (k : Int)) = true := by simp [hp]
        have HP := hid hp
        clear hp
        go_wp2_with fail
        go_ret
        rw [HE.out, if_pos (newest_is hlt HP.out)]
        exact RE.same HH.out
      · have hpb : (((S.way[j].place : Nat) : Int) == (k : Int)) = false := by simp; omega
        have HP := hid hp
        clear hp
        go_wp2_with fail
        go_round
        case rel => exact ⟨j + 1, by omega, by go_num, by
          intro x hx
          rw [List.take_succ_eq_append_getElem hlt] at hx
          rcases List.mem_append.1 hx with hx | hx
          · exact HNO.out x hx
          · simp at hx; subst hx; exact HP.out⟩
        case measure => simp [intOf]; omega
    · obtain rfl : j = S.way.length := by omega
      cases hmk : S.secs[k].marked with
      | true =>
        rw [hmk] at mc
        have HM := hid hmk
        clear hmk
        go_wp2_with fail
        go_ret
        rw [HE.out, if_neg (by rw [newest_no (by simpa using HNO.out)]; simp), if_pos HM.out]
        exact RE.same HH.out
      | false =>
        rw [hmk] at mc
        have HM := hid hmk
        have hbl := HH.out.wf.len _ (List.getElem_mem hk)
        obtain ⟨b, hb⟩ : ∃ b, S.secs[k].lasts = b := ⟨_, rfl⟩
        rw [hb] at lc hbl
        have HB := hid hb
        have hb1 : a ≤ b.length := by omega
        have hb2 : a < b.length := by omega
        have hb3 : a + 1 ≤ b.length := by omega
        have hb4 : (a : Int) < (b.length : Int) := by omega
        have hb5 : (a : Int) + 1 ≤ (b.length : Int) := by omega
        have hx1 : ¬ (9223372036854775807 < a + 1) := by omega
        have hx2 : ¬ (9223372036854775807 < a + 1 + (b.length - (a + 1))) := by omega
        have hx3 : ¬ (9223372036854775807 < b.length) := by omega
        have hb6 : (0 : Int) ≤ (a : Int) + 1 := by omega
        have hw9 : IntKind.i64.wrap ((a : Int) + 1) = (a : Int) + 1 := IntWalk.i64_in _ (by omega)
        have hcv := one_str w ((ByteArray.mk b.toArray)[a]'(show a < b.toArray.size by simpa using hb2)) m hm2
        have hq : q < w.heap.size := HH.out.disk.lt
        have hw8 : IntKind.u8.wrap (m : Int) = (m : Int) := wrap8 m (by omega)
        have hrt := rot_text b a ((ByteArray.mk b.toArray)[a]'(show a < b.toArray.size by simpa using hb2) ^^^ UInt8.ofNat m) hb2
        have HBL := hid hbl
        clear hmk hb hbl
        go_wp2_with fail
        refine wp_region_held_drew (S := fun w' => w'.cell? ⟨q, 0, none⟩ = some (.slice (some ⟨gl, 0, none⟩) S.secs.length cl)) (by kernel_rfl) c0 (fun hH => ?_)
        refine wpAnyH_take (i := 0) (v := .pointer (some ⟨q, 0, none⟩)) rfl (by kernel_rfl) (by kernel_rfl) (by kernel_rfl) (fun _ _ _ h => h) (Or.inl ⟨by rfl, fun w' hw' => by (try dsimp only at hw'); go_simp⟩) hH ?_
        simp only [Act.put]
        refine wpAnyH_take (i := 1) (v := .pointer (some ⟨q, 0, none⟩)) rfl (by kernel_rfl) (by kernel_rfl) (by kernel_rfl) (fun _ _ _ h => h) (Or.inl ⟨by rfl, fun w' hw' => by (try dsimp only at hw'); go_simp⟩) hH ?_
        simp only [Act.put]
        refine wpAnyH_take (i := 2) (v := .pointer (some ⟨q, 0, none⟩)) rfl (by kernel_rfl) (by kernel_rfl) (by kernel_rfl) (fun _ _ _ h => h) (Or.inl ⟨by rfl, fun w' hw' => by (try dsimp only at hw'); go_simp⟩) hH ?_
        simp only [Act.put]
        refine wpAnyH_take (i := 3) (v := .slice (some ⟨gl, 0, none⟩) S.secs.length cl) rfl (by kernel_rfl) (by kernel_rfl) (by kernel_rfl) (fun _ _ _ h => h) (Or.inl ⟨by rfl, fun w' hw' => by (try dsimp only at hw'); go_simp⟩) hH ?_
        simp only [Act.put]
        refine wpAnyH_take (i := 4) (v := .int .i64 (k : Int)) rfl (by kernel_rfl) (by kernel_rfl) (by kernel_rfl) (fun _ _ _ h => h) (Or.inl ⟨by rfl, fun w' hw' => by (try dsimp only at hw'); go_simp⟩) hH ?_
        simp only [Act.put]
        refine wpAnyH_take (i := 5) (v := .string ⟨b.toArray⟩) rfl (by kernel_rfl) (by kernel_rfl) (by kernel_rfl) (fun _ _ _ h => h) (Or.inl ⟨by rfl, fun w' hw' => by (try dsimp only at hw'); go_simp⟩) hH ?_
        simp only [Act.put]
        refine wpAnyH_take (i := 6) (v := .int .i64 (a : Int)) rfl (by kernel_rfl) (by kernel_rfl) (by kernel_rfl) (fun _ _ _ h => h) (Or.inl ⟨by rfl, fun w' hw' => by (try dsimp only at hw'); go_simp⟩) hH ?_
        simp only [Act.put]
        refine wpAnyH_take (i := 7) (v := ?v7) rfl (by kernel_rfl) (by kernel_rfl) (by kernel_rfl) (fun _ _ _ h => h) (Or.inl ⟨by rfl, ?y7⟩) hH ?r7
        case y7 => intro w' hw'; go_simp; exact rfl
        simp only [Act.put]
        refine wpAnyH_take (i := 8) (v := .string ⟨b.toArray⟩) rfl (by kernel_rfl) (by kernel_rfl) (by kernel_rfl) (fun _ _ _ h => h) (Or.inl ⟨by rfl, fun w' hw' => by (try dsimp only at hw'); go_simp⟩) hH ?_
        simp only [Act.put]
        refine wpAnyH_take (i := 9) (v := .int .i64 (a : Int)) rfl (by kernel_rfl) (by kernel_rfl) (by kernel_rfl) (fun _ _ _ h => h) (Or.inl ⟨by rfl, fun w' hw' => by (try dsimp only at hw'); go_simp⟩) hH ?_
        simp only [Act.put]
        refine wpAnyH_take (i := 10) (v := ?v10) rfl (by kernel_rfl) (by kernel_rfl) (by kernel_rfl) (fun _ _ _ h => h) (Or.inl ⟨by rfl, ?y10⟩) hH ?r10
        case y10 => intro w' hw'; go_simp; exact rfl
        simp only [Act.put]
        refine wpAnyH_take (i := 11) (v := .int .i64 (m : Int)) rfl (by kernel_rfl) (by kernel_rfl) (by kernel_rfl) (fun _ _ _ h => h) (Or.inl ⟨by rfl, fun w' hw' => by (try dsimp only at hw'); go_simp⟩) hH ?_
        simp only [Act.put]
        refine wpAnyH_take (i := 12) (v := .int .u8 (m : Int)) rfl (by kernel_rfl) (by kernel_rfl) (by kernel_rfl) (fun _ _ _ h => h) (Or.inl ⟨by rfl, fun w' hw' => by (try dsimp only at hw'); go_simp⟩) hH ?_
        simp only [Act.put]
        refine wpAnyH_take (i := 13) (v := ?v13) rfl (by kernel_rfl) (by kernel_rfl) (by kernel_rfl) (fun _ _ _ h => h) (Or.inl ⟨by rfl, ?y13⟩) hH ?r13
        case y13 => intro w' hw'; go_simp; exact rfl
        simp only [Act.put]
        refine wpAnyH_take (i := 17) (v := .string ⟨b.toArray⟩) rfl (by kernel_rfl) (by kernel_rfl) (by kernel_rfl) (fun _ _ _ h => h) (Or.inl ⟨by rfl, fun w' hw' => by (try dsimp only at hw'); go_simp⟩) hH ?_
        simp only [Act.put]
        refine wpAnyH_take (i := 18) (v := .int .i64 (a : Int)) rfl (by kernel_rfl) (by kernel_rfl) (by kernel_rfl) (fun _ _ _ h => h) (Or.inl ⟨by rfl, fun w' hw' => by (try dsimp only at hw'); go_simp⟩) hH ?_
        simp only [Act.put]
        refine wpAnyH_take (i := 19) (v := .int .i64 ((a : Int) + 1)) rfl (by kernel_rfl) (by kernel_rfl) (by kernel_rfl) (fun _ _ _ h => h) (Or.inl ⟨by rfl, fun w' hw' => by (try dsimp only at hw'); go_simp⟩) hH ?_
        simp only [Act.put]
        refine wpAnyH_take (i := 20) (v := ?v20) rfl (by kernel_rfl) (by kernel_rfl) (by kernel_rfl) (fun _ _ _ h => h) (Or.inl ⟨by rfl, ?y20⟩) hH ?r20
        case y20 => intro w' hw'; go_simp; exact rfl
        simp only [Act.put]
        refine wpAnyH_ready (rs := [14]) (by kernel_rfl) (by simp) ?_
        refine AllReadyH.cons rfl (fun K hK => ?_) AllReadyH.nil
        go_simp
        refine hK.out _ _ ((World.cell?_alloc_lt _ _ _ hq).trans c0) (fun hH2 => ?_)
        clear hK K hH
        try simp only [Act.put]
        refine wpAnyH_ready (rs := [15]) (by kernel_rfl) (by simp) ?_
        refine AllReadyH.cons rfl (fun K hK => ?_) AllReadyH.nil
        go_simp
        refine hK.out _ _ ((World.cell?_alloc_lt _ _ _ hq).trans c0) (fun hH3 => ?_)
        clear hK K hH2
        try simp only [Act.put]
        generalize hW : (World.drew (w.alloc _)) = W at hH3 ⊢
        have hfW : Fr w W [] := by rw [← hW]; exact ((Fr.refl w []).alloc _).drew
        have hr3 := HH.out.fr hfW (by simp)
        have c1W := hr3.c1
        have lcW := hr3.lc k hk
        have mcW := hr3.mc k hk
        have flW := hr3.la.frozenAt k
        have fmW := hr3.ma.frozenAt k
        have HFW := hid hfW
        have HR3 := hid hr3
        clear hW hfW hr3
        refine wpAnyH_take (i := 16) (v := ?v16) rfl (by kernel_rfl) (by kernel_rfl) (by kernel_rfl) (fun _ _ _ h => h) (Or.inl ⟨by rfl, ?y16⟩) hH3 ?r16
        case y16 => intro w' hw'; go_simp; exact rfl
        simp only [Act.put]
        refine wpAnyH_take (i := 21) (v := .string ⟨(b.set a ((ByteArray.mk b.toArray)[a]'(show a < b.toArray.size by simpa using hb2) ^^^ UInt8.ofNat m)).toArray⟩) rfl (by kernel_rfl) (by kernel_rfl) (by kernel_rfl) (fun _ _ _ h => h) (Or.inl ⟨by rfl, fun w' hw' => by go_simp⟩) hH3 ?_
        simp only [Act.put]
        refine wpAnyH_take (i := 22) (v := .pointer (some ⟨gl, k, none⟩)) rfl (by kernel_rfl) (by kernel_rfl) (by kernel_rfl) (fun _ _ _ h => h) (Or.inl ⟨by rfl, fun w' hw' => by go_simp⟩) hH3 ?_
        simp only [Act.put]
        refine wpAnyH_ready (rs := [23]) (by kernel_rfl) (by simp) ?_
        refine AllReadyH.cons rfl (fun K hK => ?_) AllReadyH.nil
        go_simp
        refine hK.out _ _ ((World.cell?_setCell_far _ _ _ _ n1').trans HR3.out.c0) (fun hH4 => ?_)
        clear hK K hH3
        try simp only [Act.put]
        refine wpAnyH_done (by kernel_rfl) ?_ _
        clear hH4
        go_wp2_with fail
        go_ret
        have hy : (ByteArray.mk b.toArray)[a]'(show a < b.toArray.size by simpa using hb2) ^^^ UInt8.ofNat m = S.secs[k].lasts.getD a 0 ^^^ UInt8.ofNat m := by
          rw [HB.out]
          show b.toArray[a] ^^^ _ = _
          simp [hb2]
        have E := rrot_end HH.out HFW.out hk _ hy
        rw [HB.out] at E
        rw [HE.out, if_neg (by rw [newest_no (by simpa using HNO.out)]; simp), if_neg (by rw [HM.out]; simp)]
        exact ⟨vw, rfl, E.1, E.2, fun _ hg => .inl hg⟩
/-- Rot refuses -/
theorem rrot_bad (q gl gm cl cm : Nat) (vw : Value) (S : Sp) (i a m : Int) (w : World) (h : HasR w q gl gm cl cm vw S) (hb : rotBad S i a m) :
    Calls Try.prog 28 #[dptr q, .int .i64 i, .int .i64 a, .int .i64 m] w (RE w q gl gm cl cm vw (S, 1)) := by
  have HH := hid h
  have HIS := ris_any i q gl gm cl cm vw S w h
  clear h
  by_cases hi : S.is i
  · have hq : (decide (a < 0) || decide (383 < a) || decide (m < 1) || decide (255 < m)) = true := by
      rcases hb with hb | hb | hb | hb | hb
      · exact absurd hi hb
      · simp [hb]
      · have : 383 < a := by omega
        simp [this]
      · simp [hb]
      · simp [hb]
    rw [decide_eq_true hi] at HIS
    have HI := hid HIS
    clear hb hi HIS
    unfold dptr at *
    go_enter Try.func28, Try.ntmps28
    go_wp2_with (go_at_call 59; refine HI.out.mono ?_; rintro e w1 ⟨rfl, rfl⟩)
    all_goals (go_ret; exact RE.same HH.out)
  · rw [decide_eq_false hi] at HIS
    have HI := hid HIS
    clear hb hi HIS
    unfold dptr at *
    go_enter Try.func28, Try.ntmps28
    go_wp2_with (go_at_call 59; refine HI.out.mono ?_; rintro e w1 ⟨rfl, rfl⟩)
    go_ret
    exact RE.same HH.out
theorem rrot_any (q gl gm cl cm : Nat) (vw : Value) (S : Sp) (i a m : Int) (w : World) (h : HasR w q gl gm cl cm vw S) (hc : S.count ≤ 1048576) :
    Calls Try.prog 28 #[dptr q, .int .i64 i, .int .i64 a, .int .i64 m] w (RE w q gl gm cl cm vw (S.rot i a m)) := by
  by_cases hb : rotBad S i a m
  · have e : S.rot i a m = (S, 1) := by unfold Sp.rot; exact if_pos hb
    rw [e]
    exact rrot_bad q gl gm cl cm vw S i a m w h hb
  · have hi : S.is i := Classical.byContradiction fun h => hb (.inl h)
    have hb2 : 0 ≤ a ∧ a < 384 ∧ 1 ≤ m ∧ m ≤ 255 := by
      unfold rotBad at hb
      omega
    obtain ⟨b1, b2, b3, b4⟩ := hb2
    obtain ⟨k, rfl⟩ := Int.eq_ofNat_of_zero_le hi.1
    obtain ⟨a', rfl⟩ := Int.eq_ofNat_of_zero_le b1
    obtain ⟨m', rfl⟩ := Int.eq_ofNat_of_zero_le (show 0 ≤ m by omega)
    have hk : k < S.secs.length := by have := hi.2; omega
    exact rrot_in q gl gm cl cm vw S k a' m' w h hk (by omega) (by omega) (by omega) hc
end Go.Proofs.Ytogchfpecbmocaa
/-
  The walk of does, with its frame.
-/
namespace Go.Proofs.Ytogchfpecbmocaa
open Go.RowKit

/-- what a call leaves of the disk, its frame with it -/
def DX (w : World) (p gs : Nat) (vw : Value) (S' : Sp) (w' : World) : Prop :=
  ∃ vw', HasD w' p gs vw' S' ∧ Fr w w' (fpD p gs vw) ∧ (∀ g, vw'.ownBlock = some g → vw.ownBlock = some g ∨ w.heap.size ≤ g)
def DY (w : World) (p gs : Nat) (vw : Value) (S' : Sp) (x : Int) (e : Ending) (w' : World) : Prop := e = .returned (.int .i64 x) ∧ DX w p gs vw S' w'
section
variable {w w1 w' : World} {p gs : Nat} {vw : Value} {S S' : Sp}
theorem DX.of (hf : Fr w w1 []) (h : DX w1 p gs vw S' w') : DX w p gs vw S' w' := by
  obtain ⟨vw', k1, k2, k3⟩ := h
  have hs := hf.size
  exact ⟨vw', k1, (hf.mono (fq := fpD p gs vw) (by simp)).trans k2 (fun b hb _ => hb), fun g hg => (k3 g hg).imp id (fun h => Nat.le_trans hs h)⟩
theorem DX.same (h : HasD w p gs vw S) : DX w p gs vw S w := ⟨vw, h, Fr.refl _ _, fun _ hg => .inl hg⟩
theorem dy {P : Program} {f : FuncId} {args : Array Value} {r : Sp × Int} {x : Int} (hr : r = (S', x)) (H : Calls P f args w (DE w p gs vw r)) : Calls P f args w (DY w p gs vw S' x) := by
  subst hr
  exact H.mono fun e w' ⟨vw', k0, k1, k2, k3⟩ => ⟨k0, vw', k1, k2, k3⟩
theorem dy_write (h : HasD w p gs vw S) (hc : S.count ≤ 1048576) (i : Int) (s : ByteArray) {x : Int} (hr : S.write i (sb s) = (S', x)) : Calls Try.prog 68 #[dptr p, .int .i64 i, .string s] w (DY w p gs vw S' x) :=
  dy hr (write_any p gs vw S i s w h hc)
theorem dy_flush (h : HasD w p gs vw S) (hc : S.count ≤ 1048576) {x : Int} (hr : S.flush = (S', x)) : Calls Try.prog 69 #[dptr p] w (DY w p gs vw S' x) :=
  dy hr (flush_any p gs vw S w h hc)
theorem dy_fuse (h : HasD w p gs vw S) (n : Int) (hn : n ≤ 9223372036854775807) {x : Int} (hr : S.fuse n = (S', x)) : Calls Try.prog 21 #[dptr p, .int .i64 n] w (DY w p gs vw S' x) :=
  dy hr ((fuse_any p gs vw S n w h hn).mono fun _ _ ⟨k1, k2, k3⟩ => ⟨vw, k1, k2, k3.mono (by simp [fpD]), fun _ hg => .inl hg⟩)
theorem dy_cut (h : HasD w p gs vw S) {x : Int} (hr : S.cut = (S', x)) : Calls Try.prog 23 #[dptr p] w (DY w p gs vw S' x) :=
  dy hr ((cut_any p gs vw S w h).mono fun _ _ ⟨k1, k2, k3⟩ => ⟨vw, k1, k2, k3.mono (by simp [fpD]), fun _ hg => .inl hg⟩)
theorem dy_start (h : HasD w p gs vw S) (hc : S.count ≤ 1048576) (picks : List Int) (A : Option Addr) (l c D : Nat) (hl : l = picks.length) (hrd : Rd w D A (ints picks)) (hp : ∀ x ∈ picks, x ≤ 9223372036854775807) (hpn : picks.length ≤ 9223372036854775807)
    (hA : picks ≠ [] → ∀ g o, A = some ⟨g, o, none⟩ → g ≠ gs) {x : Int} (hr : S.start picks = (S', x)) : Calls Try.prog 25 #[dptr p, .slice A l c] w (DY w p gs vw S' x) := by
  subst hl
  exact dy hr (start_any p gs vw S picks A c D w h hc hrd hp hpn hA)
theorem dy_rot (h : HasD w p gs vw S) (hc : S.count ≤ 1048576) (i a m : Int) {x : Int} (hr : S.rot i a m = (S', x)) : Calls Try.prog 27 #[dptr p, .int .i64 i, .int .i64 a, .int .i64 m] w (DY w p gs vw S' x) :=
  dy hr (have _ := hc; rot_any p gs vw S i a m w h)
theorem dy_read (h : HasD w p gs vw S) (hc : S.count ≤ 1048576) (i : Int) {l : List UInt8} {x : Int} (hr : S.read i = (l, x)) : Calls Try.prog 33 #[dptr p, .int .i64 i] w fun e w' => e = .returned (.tuple #[.string ⟨l.toArray⟩, .int .i64 x]) ∧ DX w p gs vw S w' := by
  refine (read_any p gs vw S i w h hc).mono ?_
  rw [hr]
  rintro e w' ⟨rfl, n, rfl⟩
  exact ⟨rfl, vw, h.fr (fp := []) ⟨rfl, rfl, rfl, Nat.le_refl _, fun _ _ _ => rfl⟩ (by simp), ⟨rfl, rfl, rfl, Nat.le_refl _, fun _ _ _ => rfl⟩, fun _ hg => .inl hg⟩
end

section
variable (i at_ n : Int) (c : UInt8) (text : ByteArray) (A : Option Addr) (cap l : Nat) {w : World} {p gs : Nat} {vw : Value} {S S' : Sp} {x : Int} (h : HasD w p gs vw S) (hc : S.count ≤ 1048576)

end

end Go.Proofs.Ytogchfpecbmocaa
/-
  The walk of means, with its frame.
-/
namespace Go.Proofs.Ytogchfpecbmocaa
open Go.RowKit

theorem rstart_any (q gl gm cl cm : Nat) (vw : Value) (S : Sp) (picks : List Int) (A : Option Addr) (cp D : Nat) (w : World) (h : HasR w q gl gm cl cm vw S) (hc : S.count ≤ 1048576)
    (hr : Rd w D A (ints picks)) (hp : ∀ x ∈ picks, x ≤ 9223372036854775807) (hpn : picks.length ≤ 9223372036854775807) (hA : picks ≠ [] → ∀ g o, A = some ⟨g, o, none⟩ → g ≠ gl ∧ g ≠ gm) :
    Calls Try.prog 26 #[dptr q, .slice A picks.length cp] w (RE w q gl gm cl cm vw (S.start picks)) := by
  cases ho : S.on with
  | true => exact rstart_busy q gl gm cl cm vw _ S picks w h ho
  | false => exact rstart_ok q gl gm cl cm vw S picks A cp D w h ho hc hr hp hpn hA
/-- what a call leaves of the disk, its frame with it -/
def RX (w : World) (q gl gm cl cm : Nat) (vw : Value) (S' : Sp) (w' : World) : Prop :=
  ∃ vw', HasR w' q gl gm cl cm vw' S' ∧ Fr w w' (fpR q gl gm vw) ∧ (∀ g, vw'.ownBlock = some g → vw.ownBlock = some g ∨ w.heap.size ≤ g)
def RY (w : World) (q gl gm cl cm : Nat) (vw : Value) (S' : Sp) (x : Int) (e : Ending) (w' : World) : Prop := e = .returned (.int .i64 x) ∧ RX w q gl gm cl cm vw S' w'
section
variable {w w1 w' : World} {q gl gm cl cm : Nat} {vw : Value} {S S' : Sp}
theorem RX.of (hf : Fr w w1 []) (h : RX w1 q gl gm cl cm vw S' w') : RX w q gl gm cl cm vw S' w' := by
  obtain ⟨vw', k1, k2, k3⟩ := h
  have hs := hf.size
  exact ⟨vw', k1, (hf.mono (fq := fpR q gl gm vw) (by simp)).trans k2 (fun b hb _ => hb), fun g hg => (k3 g hg).imp id (fun h => Nat.le_trans hs h)⟩
theorem RX.same (h : HasR w q gl gm cl cm vw S) : RX w q gl gm cl cm vw S w := ⟨vw, h, Fr.refl _ _, fun _ hg => .inl hg⟩
theorem ry {P : Program} {f : FuncId} {args : Array Value} {r : Sp × Int} {x : Int} (hr : r = (S', x)) (H : Calls P f args w (RE w q gl gm cl cm vw r)) : Calls P f args w (RY w q gl gm cl cm vw S' x) := by
  subst hr
  exact H.mono fun e w' ⟨vw', k0, k1, k2, k3⟩ => ⟨k0, vw', k1, k2, k3⟩
theorem ry_write (h : HasR w q gl gm cl cm vw S) (hc : S.count ≤ 1048576) (i : Int) (s : ByteArray) {x : Int} (hr : S.write i (sb s) = (S', x)) : Calls Try.prog 50 #[dptr q, .int .i64 i, .string s] w (RY w q gl gm cl cm vw S' x) :=
  ry hr (rwrite_any q gl gm cl cm vw S i s w h hc)
theorem ry_flush (h : HasR w q gl gm cl cm vw S) (hc : S.count ≤ 1048576) {x : Int} (hr : S.flush = (S', x)) : Calls Try.prog 51 #[dptr q] w (RY w q gl gm cl cm vw S' x) :=
  ry hr (rflush_any q gl gm cl cm vw S w h hc)
theorem ry_fuse (h : HasR w q gl gm cl cm vw S) (n : Int) (hn : n ≤ 9223372036854775807) {x : Int} (hr : S.fuse n = (S', x)) : Calls Try.prog 22 #[dptr q, .int .i64 n] w (RY w q gl gm cl cm vw S' x) :=
  ry hr (rfuse_any q gl gm cl cm vw S n w h hn)
theorem ry_cut (h : HasR w q gl gm cl cm vw S) {x : Int} (hr : S.cut = (S', x)) : Calls Try.prog 24 #[dptr q] w (RY w q gl gm cl cm vw S' x) :=
  ry hr (rcut_any q gl gm cl cm vw S w h)
theorem ry_start (h : HasR w q gl gm cl cm vw S) (hc : S.count ≤ 1048576) (picks : List Int) (A : Option Addr) (l c D : Nat) (hl : l = picks.length) (hrd : Rd w D A (ints picks)) (hp : ∀ x ∈ picks, x ≤ 9223372036854775807) (hpn : picks.length ≤ 9223372036854775807)
    (hA : picks ≠ [] → ∀ g o, A = some ⟨g, o, none⟩ → g ≠ gl ∧ g ≠ gm) {x : Int} (hr : S.start picks = (S', x)) : Calls Try.prog 26 #[dptr q, .slice A l c] w (RY w q gl gm cl cm vw S' x) := by
  subst hl
  exact ry hr (rstart_any q gl gm cl cm vw S picks A c D w h hc hrd hp hpn hA)
theorem ry_rot (h : HasR w q gl gm cl cm vw S) (hc : S.count ≤ 1048576) (i a m : Int) {x : Int} (hr : S.rot i a m = (S', x)) : Calls Try.prog 28 #[dptr q, .int .i64 i, .int .i64 a, .int .i64 m] w (RY w q gl gm cl cm vw S' x) :=
  ry hr (rrot_any q gl gm cl cm vw S i a m w h hc)
theorem ry_read (h : HasR w q gl gm cl cm vw S) (hc : S.count ≤ 1048576) (i : Int) {l : List UInt8} {x : Int} (hr : S.read i = (l, x)) : Calls Try.prog 34 #[dptr q, .int .i64 i] w fun e w' => e = .returned (.tuple #[.string ⟨l.toArray⟩, .int .i64 x]) ∧ RX w q gl gm cl cm vw S w' := by
  refine (rread_any q gl gm cl cm vw S i w h hc).mono ?_
  rw [hr]
  rintro e w' ⟨rfl, rfl⟩
  exact ⟨rfl, RX.same h⟩
end

section
variable (i at_ n : Int) (c : UInt8) (text : ByteArray) (A : Option Addr) (cap l : Nat) {w : World} {q gl gm cl cm : Nat} {vw : Value} {S S' : Sp} {x : Int} (h : HasR w q gl gm cl cm vw S) (hc : S.count ≤ 1048576)

end

end Go.Proofs.Ytogchfpecbmocaa
/-
  The answer's own disk: New.
-/
namespace Go.Proofs.Ytogchfpecbmocaa
open Go.RowKit

theorem one_news (w : World) (a : Value) (e : TypeId) : ∀ j u, ([a] : List Value)[j]? = some u → (w.alloc (.cells #[a] e)).cell? ((⟨w.heap.size, 0, none⟩ : Addr).add j) = some u := by
  have := World.news_of_block (heap_alloc_new w (.cells #[a] e))
  simpa using this
/-- make([]T, n), as one operation -/
theorem wp_mk {P : Program} {o : Oper} {a : Act} {w : World} {K : Act → World → Prop} {Q : Exit → Act → World → Prop} (l c : Operand) (t : TypeId) (hop : o.op = Op.makeSlice t l c)
    (e : TypeId) (i : TypeInfo) (z : Value) (h1 : P.underlying t = some (.slice e)) (h2 : P.info? e = some i) (h3 : i.zero = some z) (h4 : i.size = 1) (hz : z.cells = #[z])
    (n : Nat) (hl : a.eval l = .int .i64 (n : Int)) (hc : a.eval c = .int .i64 (n : Int)) (b2 : i.bytes * n ≤ 281474976710656) (b3 : n ≤ maxLen)
    (h : ∀ w', Row w' w.heap.size e (List.replicate n z) → w.grownBy w' none → K (a.put o.dst (.slice (some ⟨w.heap.size, 0, none⟩) n n)) w') : o.wp P a w K Q := by
  obtain ⟨w', hrun, r1, r2⟩ := run_make_full (P := P) w w.heap.size t e i z 1 h1 h2 h3 h4 .i64 .i64 n b2 b3 (Nat.le_refl _)
  unfold Oper.wp
  simp [execOp, hop, hl, hc, hrun, Result.andThen]
  refine h w' ?_ r2
  rcases r1.2 with ⟨hv, _⟩ | ⟨g, cap, cur, hv, _, hh, _, _, h5, h6⟩
  · simp at hv
  · simp only [Value.slice.injEq, Option.some.injEq, Addr.mk.injEq, true_and, and_true] at hv
    obtain ⟨rfl, rfl⟩ := hv
    have : cur = (List.replicate n z).toArray := by
      apply Array.toList_inj.1
      have h7 : cur.toList.take (n * 1) = cur.toList := List.take_of_length_le (by simp only [Array.length_toList]; omega)
      rw [← h7, h6, hz, toList_madeCells_one]
      simp
    subst this
    exact hh
/-- string(b), as one operation -/
theorem wp_st {P : Program} {o : Oper} {a : Act} {w : World} {K : Act → World → Prop} {Q : Exit → Act → World → Prop} (x : Operand) (src dst : TypeId)
    (ho : o.op = .convert src dst x) (e : TypeId) (hs : P.underlying src = some (.slice e)) (he : P.underlying e = some (.int .u8)) (hd : P.underlying dst = some .string)
    (A : Option Addr) (l c : Nat) (hx : a.eval x = .slice A l c) (B : Nat) (bs : List UInt8) (hr : Rd w B A (bvs bs)) (hl : l = bs.length)
    (h : K (a.put o.dst (.string ⟨bs.toArray⟩)) w) : o.wp P a w K Q := by
  unfold Oper.wp execOp
  simp only [ho, Sem.run_bind, Sem.run_pure, Result.andThen_ok, hx, run_str w src e hs he dst hd B A bs l c hl hr]
  exact h
theorem infoS9 : (Try.prog.info? 9).map (fun i => (i.zero, i.size, i.bytes)) = some (some (.string ⟨#[]⟩), 1, 16) := by kernel_rfl
theorem infoB4 : (Try.prog.info? 4).map (fun i => (i.zero, i.size, i.bytes)) = some (some (.bool false), 1, 1) := by kernel_rfl
def zs : Value := str (b384 0)
/-- a disk that is being made: a texts, b marks -/
structure NwR (w wr : World) (p a b : Nat) (v1 v2 : Value) : Prop where
  disk : Row wr p 61 [v1, v2, .slice none 0 0, .bool false, .int .i64 0, .int .i64 0]
  la : wr.ownsRow 0 9 1 v1 a (List.replicate a zs)
  ma : wr.ownsRow 0 4 1 v2 b (List.replicate b (.bool false))
  n1 : v1.ownBlock ≠ some p
  n2 : v2.ownBlock ≠ some p
  n3 : ∀ g, v1.ownBlock = some g → v2.ownBlock ≠ some g
  g1 : ∀ g, v1.ownBlock = some g → w.heap.size ≤ g
  g2 : ∀ g, v2.ownBlock = some g → w.heap.size ≤ g
  fr : Fr w wr []
  hp : w.heap.size ≤ p
theorem nw_la {w wr w3 w4 : World} {p a b : Nat} {v1 v2 : Value} {g cap : Nat} (h : NwR w wr p a b v1 v2) (hf : Fr wr w3 []) (ho : w4.ownsRow 0 9 1 (.slice (some ⟨g, 0, none⟩) (a + 1) cap) (a + 1) (List.replicate a zs ++ [zs]))
    (hg : w3.grownBy w4 v1.ownBlock) (hat : v1.ownBlock = some g ∨ g = w3.heap.size) :
    NwR w (w4.setCell ⟨p, 0, none⟩ (.slice (some ⟨g, 0, none⟩) (a + 1) cap)) p (a + 1) b (.slice (some ⟨g, 0, none⟩) (a + 1) cap) v2 := by
  have hs := hf.size
  have f34 : Fr w3 w4 v1.ownBlock.toList := (Fr.refl w3 _).grown hg (by intro b hb; exact .inl (by simp [hb]))
  have f14 : Fr wr w4 v1.ownBlock.toList := (hf.mono (by simp)).trans f34 (fun b hb _ => hb)
  have hpl := h.disk.lt
  have hgp : g ≠ p := by
    rintro rfl
    rcases hat with h' | h'
    · exact h.n1 h'
    · omega
  have hg2 : v2.ownBlock ≠ some g := by
    intro e
    rcases hat with h' | h'
    · exact h.n3 g h' e
    · have := (h.ma.lt _ e).2; omega
  have hgw : w.heap.size ≤ g := by
    rcases hat with h' | h'
    · exact h.g1 g h'
    · have := h.fr.size; omega
  have f5 : Fr w4 (w4.setCell ⟨p, 0, none⟩ (.slice (some ⟨g, 0, none⟩) (a + 1) cap)) [p] := (Fr.refl w4 [p]).setCell (p := ⟨p, 0, none⟩) (by simp) _
  have f15 : Fr wr (w4.setCell ⟨p, 0, none⟩ (.slice (some ⟨g, 0, none⟩) (a + 1) cap)) (p :: v1.ownBlock.toList) := (f14.mono (by intro b hb; exact List.mem_cons_of_mem _ hb)).trans f5 (by intro b hb _; simp at hb; subst hb; simp)
  refine ⟨?_, ?_, ?_, by simpa [Value.ownBlock] using hgp, h.n2, ?_, ?_, h.g2, ?_, h.hp⟩
  · exact (f14.row h.disk (by simpa using h.n1)).set_ 0 _
  · have := f5.own ho (fun b hb => by cases hb; simpa using hgp)
    rw [List.replicate_succ']
    exact this
  · exact f15.own h.ma (fun b hb => by simp; exact ⟨fun e => h.n2 (by rw [hb, e]), fun e => h.n3 b e hb⟩)
  · intro x hx e; cases hx; exact hg2 e
  · intro x hx; cases hx; exact hgw
  · refine h.fr.trans f15 ?_
    intro b hb hlt
    simp at hb
    rcases hb with rfl | hb
    · have := h.hp; omega
    · have := h.g1 b hb; omega
theorem nw_ma {w wr w3 w4 : World} {p a b : Nat} {v1 v2 : Value} {g cap : Nat} (h : NwR w wr p a b v1 v2) (hf : Fr wr w3 []) (ho : w4.ownsRow 0 4 1 (.slice (some ⟨g, 0, none⟩) (b + 1) cap) (b + 1) (List.replicate b (.bool false) ++ [.bool false]))
    (hg : w3.grownBy w4 v2.ownBlock) (hat : v2.ownBlock = some g ∨ g = w3.heap.size) :
    NwR w (w4.setCell ⟨p, 1, none⟩ (.slice (some ⟨g, 0, none⟩) (b + 1) cap)) p a (b + 1) v1 (.slice (some ⟨g, 0, none⟩) (b + 1) cap) := by
  have hs := hf.size
  have f34 : Fr w3 w4 v2.ownBlock.toList := (Fr.refl w3 _).grown hg (by intro b hb; exact .inl (by simp [hb]))
  have f14 : Fr wr w4 v2.ownBlock.toList := (hf.mono (by simp)).trans f34 (fun b hb _ => hb)
  have hpl := h.disk.lt
  have hgp : g ≠ p := by
    rintro rfl
    rcases hat with h' | h'
    · exact h.n2 h'
    · omega
  have hg2 : v1.ownBlock ≠ some g := by
    intro e
    rcases hat with h' | h'
    · exact h.n3 g e h'
    · have := (h.la.lt _ e).2; omega
  have hgw : w.heap.size ≤ g := by
    rcases hat with h' | h'
    · exact h.g2 g h'
    · have := h.fr.size; omega
  have f5 : Fr w4 (w4.setCell ⟨p, 1, none⟩ (.slice (some ⟨g, 0, none⟩) (b + 1) cap)) [p] := (Fr.refl w4 [p]).setCell (p := ⟨p, 1, none⟩) (by simp) _
  have f15 : Fr wr (w4.setCell ⟨p, 1, none⟩ (.slice (some ⟨g, 0, none⟩) (b + 1) cap)) (p :: v2.ownBlock.toList) := (f14.mono (by intro b hb; exact List.mem_cons_of_mem _ hb)).trans f5 (by intro b hb _; simp at hb; subst hb; simp)
  refine ⟨?_, ?_, ?_, h.n1, by simpa [Value.ownBlock] using hgp, ?_, h.g1, ?_, ?_, h.hp⟩
  · exact (f14.row h.disk (by simpa using h.n2)).set_ 1 _
  · exact f15.own h.la (fun b hb => by simp; exact ⟨fun e => h.n1 (by rw [hb, e]), fun e => h.n3 b hb e⟩)
  · have := f5.own ho (fun b hb => by cases hb; simpa using hgp)
    rw [List.replicate_succ']
    exact this
  · intro x hx e; cases e; exact hg2 hx
  · intro x hx; cases hx; exact hgw
  · refine h.fr.trans f15 ?_
    intro b hb hlt
    simp at hb
    rcases hb with rfl | hb
    · have := h.hp; omega
    · have := h.g2 b hb; omega
/-- a new disk of the answer's own -/
def NewR (w : World) (n : Nat) (e : Ending) (w' : World) : Prop :=
  ∃ q gl gm cl cm, e = .returned (.tuple #[dptr q, .int .i64 0]) ∧ HasR w' q gl gm cl cm (.slice none 0 0) (Sp.mk0 n) ∧ Fr w w' [] ∧ w.heap.size ≤ q ∧ w.heap.size ≤ gl ∧ w.heap.size ≤ gm
theorem nw_end {w wr : World} {p n : Nat} {v1 v2 : Value} (h : NwR w wr p n n v1 v2) (h1 : 1 ≤ n) (h2 : n ≤ 64) : NewR w n (.returned (.tuple #[dptr p, .int .i64 0])) wr := by
  rcases h.la.2 with ⟨_, h0⟩ | ⟨gl, cl, cur, hv1, _⟩
  · omega
  rcases h.ma.2 with ⟨_, h0⟩ | ⟨gm, cm, cur', hv2, _⟩
  · omega
  subst hv1 hv2
  have e1 : laCells (Sp.mk0 n) = List.replicate n zs := by simp [laCells, Sp.mk0, zs, sec0]
  have e2 : maCells (Sp.mk0 n) = List.replicate n (.bool false) := by simp [maCells, Sp.mk0, sec0]
  have el : (Sp.mk0 n).secs.length = n := by simp [Sp.mk0]
  refine ⟨p, gl, gm, cl, cm, rfl, ⟨?_, ?_, ?_, World.ownsRow_nil _ _ _ _, ?_, ?_, ?_, by simp [Value.ownBlock], by simp [Value.ownBlock], by simp [Value.ownBlock], mk0_wf n h2⟩, h.fr, h.hp, h.g1 gl rfl, h.g2 gm rfl⟩
  · rw [el]; exact h.disk
  · rw [e1, el]; exact h.la
  · rw [e2, el]; exact h.ma
  · have := h.n1; simp [Value.ownBlock] at this; exact fun e => this e.symm
  · have := h.n2; simp [Value.ownBlock] at this; exact fun e => this e.symm
  · have := h.n3 gl rfl; simp [Value.ownBlock] at this; exact fun e => this e.symm
set_option maxRecDepth 10000 in
theorem rnew_no (i : Int) (w : World) (h : ¬ (1 ≤ i ∧ i ≤ 64)) :
    Calls Try.prog 18 #[.int .i64 i] w fun e w' => e = .returned (.tuple #[.pointer none, .int .i64 1]) ∧ w = w' := by
  have hq : (decide (i < 1) || decide (64 < i)) = true := by simp; omega
  clear h
  go_enter Try.func18, Try.ntmps18
  go_wp2_with fail
  all_goals (go_ret2; exact ⟨rfl, rfl⟩)
set_option maxRecDepth 10000 in
set_option maxHeartbeats 2000000 in
theorem rnew_yes (n : Nat) (w : World) (h1 : 1 ≤ n) (h2 : n ≤ 64) :
    Calls Try.prog 18 #[.int .i64 (n : Int)] w (NewR w n) := by
  obtain ⟨i8, hi8, hz80, hz81, hz82⟩ := info_parts infoU8
  obtain ⟨i9, hi9, hz90, hz91, hz92⟩ := info_parts infoS9
  obtain ⟨i4, hi4, hz40, hz41, hz42⟩ := info_parts infoB4
  have HB1 : Hid (∀ u ∈ ([.bool false] : List Value), u.oneCell' = true) := hid (by intro u hu; simp at hu; subst hu; rfl)
  have H0 := hid (Row.new w 61 #[.slice none 0 0, .slice none 0 0, .slice none 0 0, .bool false, .int .i64 0, .int .i64 0])
  have HF0 := hid ((Fr.refl w []).alloc (.cells #[.slice none 0 0, .slice none 0 0, .slice none 0 0, .bool false, .int .i64 0, .int .i64 0] 61))
  go_enter Try.func18, Try.ntmps18
  go_wp2_with fail
  go_loopw [5] (fun i wr => ∃ k : Nat, k ≤ n ∧ i = .int .i64 k ∧ ∃ v1 v2, NwR w wr w.heap.size k k v1 v2) (fun i _ => n - (intOf i).toNat)
  case atStart => exact ⟨0, by omega, rfl, .slice none 0 0, .slice none 0 0, ⟨H0.out, World.ownsRow_nil _ _ _ _, World.ownsRow_nil _ _ _ _, by simp [Value.ownBlock], by simp [Value.ownBlock], by simp [Value.ownBlock], by simp [Value.ownBlock], by simp [Value.ownBlock], HF0.out, Nat.le_refl _⟩⟩
  case round =>
    obtain ⟨k, hk, rfl, v1, v2, hnw⟩ := hrel
    have c0 := hnw.disk.at_ 0 _ rfl
    have HN := hid hnw
    clear hnw
    by_cases hlt : k < n
    · have hki : (k : Int) < (n : Int) := by omega
      go_wp2_with fail
      refine wp_region_held_drew (S := fun _ => True) (by kernel_rfl) trivial (fun hH => ?_)
      clear hH
      refine wpAnyH_take (i := 0) (v := .pointer (some ⟨w.heap.size, 0, none⟩)) rfl (by kernel_rfl) (by kernel_rfl) (by kernel_rfl) (fun _ _ _ h => h) (Or.inl ⟨by rfl, fun w' hw' => by go_simp⟩) trivial ?_
      simp only [Act.put]
      refine wpAnyH_take (i := 1) (v := .pointer (some ⟨w.heap.size, 0, none⟩)) rfl (by kernel_rfl) (by kernel_rfl) (by kernel_rfl) (fun _ _ _ h => h) (Or.inl ⟨by rfl, fun w' hw' => by go_simp⟩) trivial ?_
      simp only [Act.put]
      refine wpAnyH_take (i := 2) (v := .pointer (some ⟨w.heap.size, 0, none⟩)) rfl (by kernel_rfl) (by kernel_rfl) (by kernel_rfl) (fun _ _ _ h => h) (Or.inl ⟨by rfl, fun w' hw' => by go_simp⟩) trivial ?_
      simp only [Act.put]
      refine wpAnyH_take (i := 3) (v := .pointer (some ⟨w.heap.size, 0, none⟩)) rfl (by kernel_rfl) (by kernel_rfl) (by kernel_rfl) (fun _ _ _ h => h) (Or.inl ⟨by rfl, fun w' hw' => by go_simp⟩) trivial ?_
      simp only [Act.put]
      refine wpAnyH_ready (rs := [4, 5]) (by kernel_rfl) (by simp) ?_
      refine AllReadyH.cons rfl (fun K hK => ?_) (AllReadyH.cons rfl (fun K hK => ?_) AllReadyH.nil)
      · go_simp
        refine hK.out _ _ trivial (fun _ => ?_)
        clear hK K
        try simp only [Act.put]
        refine wpAnyH_ready (rs := [5]) (by kernel_rfl) (by simp) ?_
        refine AllReadyH.cons rfl (fun K hK => ?_) AllReadyH.nil
        rw [if_pos (by rfl)]
        refine wp_mk (.const (.int .i64 384)) (.const (.int .i64 384)) 69 rfl 5 i8 (.int .u8 0) Try.underlying69 hi8 hz80 hz81 rfl 384 rfl rfl (by rw [hz82]; decide) (le_maxLen (by decide)) ?_
        intro w1 hr1 hg1
        have hf1 : Fr wr w1 [] := (Fr.drew (Fr.refl wr [])).grown hg1 (by intro k hk; cases hk)
        have c1 := (hf1.row HN.out.disk (by simp)).at_ 0 _ rfl
        have HR1 : Hid (Rd w1 w1.heap.size (some ⟨wr.heap.size, 0, none⟩) (bvs (b384 0))) := hid (by have := hr1.rd (B := w1.heap.size) hr1.lt; simpa [b384, bvs, bv] using this)
        have HF1 := hid hf1
        clear hr1 hg1 hf1 c0
        refine hK.out _ _ trivial (fun _ => ?_)
        clear hK K
        try simp only [Act.put]
        refine wpAnyH_ready (rs := [6]) (by kernel_rfl) (by simp) ?_
        refine AllReadyH.cons rfl (fun K hK => ?_) AllReadyH.nil
        rw [if_pos (by rfl)]
        refine wp_st (.tmp 24) 69 9 rfl 5 Try.underlying69 Try.underlying5 Try.underlying9 (some ⟨wr.heap.size, 0, none⟩) 384 384 rfl w1.heap.size (b384 0) HR1.out (b384_len 0).symm ?_
        refine hK.out _ _ trivial (fun _ => ?_)
        clear hK K
        try simp only [Act.put]
        refine wpAnyH_ready (rs := [7]) (by kernel_rfl) (by simp) ?_
        refine AllReadyH.cons rfl (fun K hK => ?_) AllReadyH.nil
        go_simp
        refine hK.out _ _ trivial (fun _ => ?_)
        clear hK K
        try simp only [Act.put]
        obtain ⟨w2, hw2⟩ : ∃ w2, w1.alloc (.cells #[.string ⟨(b384 0).toArray⟩] 9) = w2 := ⟨_, rfl⟩
        rw [hw2]
        have hf2 : Fr wr w2 [] := by rw [← hw2]; exact HF1.out.alloc _
        have hs2 : w2.heap.size = w1.heap.size + 1 := by rw [← hw2]; simp
        have c2 := (hf2.row HN.out.disk (by simp)).at_ 0 _ rfl
        have hn2 : w2.cell? ⟨w1.heap.size, 0, none⟩ = some zs := by rw [← hw2]; exact (Row.new w1 9 #[zs]).at_ 0 _ rfl
        have HF2 := hid hf2
        have HW2 := hid hw2
        have HN2 := hid hn2
        clear hf2 hw2 hn2 c1
        refine wpAnyH_ready (rs := [8]) (by kernel_rfl) (by simp) ?_
        refine AllReadyH.cons rfl (fun K hK => ?_) AllReadyH.nil
        refine step_append_lies _ rfl (.tmp 23) (.tmp 26) 57 rfl 0 9 i9 _ 1 16 Try.underlying57 hi9 hz90 hz91 hz92 rfl (by decide) v1 k (List.replicate k zs) rfl (HF2.out.own HN.out.la (by simp)) ⟨w1.heap.size, 0, none⟩ 1 1 [zs] rfl rfl (fun j u hu => by match j, hu with | 0, hu => (simp at hu; subst hu; exact HN2.out)) (by intro u hu; simp at hu; subst hu; rfl) (by decide) (le_maxLen (by omega)) (by omega) (Nat.zero_le _) (w1.heap.size + 1) hs2 ?_
        intro g cap w4 ho4 hg4 hat hlt4
        have NW := nw_la HN.out HF2.out ho4 hg4 (by rw [hs2]; exact hat)
        have f40 : w4.frozen? ⟨w.heap.size, 0, none⟩ = false := (Fr.row ((Fr.refl w2 v1.ownBlock.toList).grown hg4 (by intro b hb; exact .inl (by simp [hb]))) (HF2.out.row HN.out.disk (by simp)) (by simpa using HN.out.n1)).frozen 0
        have c40 := (Fr.row ((Fr.refl w2 v1.ownBlock.toList).grown hg4 (by intro b hb; exact .inl (by simp [hb]))) (HF2.out.row HN.out.disk (by simp)) (by simpa using HN.out.n1)).at_ 0 _ rfl
        have HNW := hid NW
        clear NW ho4 hg4 hat hlt4
        simp only [Act.put]
        refine hK.out _ _ trivial (fun _ => ?_)
        clear hK K c2
        refine wpAnyH_take (i := 9) (v := .pointer (some ⟨w.heap.size, 0, none⟩)) rfl (by kernel_rfl) (by kernel_rfl) (by kernel_rfl) (fun _ _ _ h => h) (Or.inl ⟨by rfl, fun w' hw' => by go_simp⟩) trivial ?_
        simp only [Act.put]
        refine wpAnyH_take (i := 10) (v := .pointer (some ⟨w.heap.size, 0, none⟩)) rfl (by kernel_rfl) (by kernel_rfl) (by kernel_rfl) (fun _ _ _ h => h) (Or.inl ⟨by rfl, fun w' hw' => by go_simp⟩) trivial ?_
        simp only [Act.put]
        refine wpAnyH_ready (rs := [11]) (by kernel_rfl) (by simp) ?_
        refine AllReadyH.cons rfl (fun K hK => ?_) AllReadyH.nil
        go_simp
        refine hK.out _ _ trivial (fun _ => ?_)
        clear hK K
        try simp only [Act.put]
        refine wpAnyH_done (by kernel_rfl) ?_ _
        obtain ⟨w5, hw5⟩ : ∃ w5, w4.setCell ⟨w.heap.size, 0, none⟩ (.slice (some ⟨g, 0, none⟩) (k + 1) cap) = w5 := ⟨_, rfl⟩
        rw [hw5] at HNW ⊢
        have c51 := HNW.out.disk.at_ 1 _ rfl
        clear hw5 c40 f40
        go_wp2_with (with_reducible refine wpList_append_lies _ rfl (.tmp 34) (.tmp 35) 58 rfl 0 4 i4 _ 1 1 Try.underlying58 hi4 hz40 hz41 hz42 rfl (by decide) v2 k (List.replicate k (.bool false)) rfl (HNW.out.ma.alloc _) ⟨w5.heap.size, 0, none⟩ 1 1 [.bool false] rfl rfl (one_news _ _ _) HB1.out (by decide) (le_maxLen (by omega)) (by omega) (Nat.zero_le _) (w5.heap.size + 1) (by simp) ?_; intro g' cap' w6 ho6 hg6 hat6 hlt6; have NW := nw_ma HNW.out ((Fr.refl w5 []).alloc _) ho6 hg6 (by simpa using hat6); have r6 := (Fr.grown ((Fr.refl w5 v2.ownBlock.toList).alloc _) hg6 (by intro b hb; exact .inl (by simp [hb]))).row HNW.out.disk (by simpa using HNW.out.n2); have c61 := r6.at_ 1 _ rfl; have f61 := r6.frozen 1; have HNZ := hid NW; clear NW r6 ho6 hg6 hat6 hlt6)
        go_roundw
        case rel => exact ⟨k + 1, by omega, by go_num, _, _, HNZ.out⟩
        case measure => simp [intOf]; omega
      · rw [if_pos (by rfl)]
        refine wp_mk (.const (.int .i64 384)) (.const (.int .i64 384)) 69 rfl 5 i8 (.int .u8 0) Try.underlying69 hi8 hz80 hz81 rfl 384 rfl rfl (by rw [hz82]; decide) (le_maxLen (by decide)) ?_
        intro w1 hr1 hg1
        have hf1 : Fr wr w1 [] := (Fr.drew (Fr.refl wr [])).grown hg1 (by intro k hk; cases hk)
        have c1 := (hf1.row HN.out.disk (by simp)).at_ 0 _ rfl
        have HR1 : Hid (Rd w1 w1.heap.size (some ⟨wr.heap.size, 0, none⟩) (bvs (b384 0))) := hid (by have := hr1.rd (B := w1.heap.size) hr1.lt; simpa [b384, bvs, bv] using this)
        have HF1 := hid hf1
        clear hr1 hg1 hf1 c0
        refine hK.out _ _ trivial (fun _ => ?_)
        clear hK K
        try simp only [Act.put]
        refine wpAnyH_ready (rs := [4, 6]) (by kernel_rfl) (by simp) ?_
        refine AllReadyH.cons rfl (fun K hK => ?_) (AllReadyH.cons rfl (fun K hK => ?_) AllReadyH.nil)
        · go_simp
          refine hK.out _ _ trivial (fun _ => ?_)
          clear hK K
          try simp only [Act.put]
          refine wpAnyH_ready (rs := [6]) (by kernel_rfl) (by simp) ?_
          refine AllReadyH.cons rfl (fun K hK => ?_) AllReadyH.nil
          rw [if_pos (by rfl)]
          refine wp_st (.tmp 24) 69 9 rfl 5 Try.underlying69 Try.underlying5 Try.underlying9 (some ⟨wr.heap.size, 0, none⟩) 384 384 rfl w1.heap.size (b384 0) HR1.out (b384_len 0).symm ?_
          refine hK.out _ _ trivial (fun _ => ?_)
          clear hK K
          try simp only [Act.put]
          refine wpAnyH_ready (rs := [7]) (by kernel_rfl) (by simp) ?_
          refine AllReadyH.cons rfl (fun K hK => ?_) AllReadyH.nil
          go_simp
          refine hK.out _ _ trivial (fun _ => ?_)
          clear hK K
          try simp only [Act.put]
          obtain ⟨w2, hw2⟩ : ∃ w2, w1.alloc (.cells #[.string ⟨(b384 0).toArray⟩] 9) = w2 := ⟨_, rfl⟩
          rw [hw2]
          have hf2 : Fr wr w2 [] := by rw [← hw2]; exact HF1.out.alloc _
          have hs2 : w2.heap.size = w1.heap.size + 1 := by rw [← hw2]; simp
          have c2 := (hf2.row HN.out.disk (by simp)).at_ 0 _ rfl
          have hn2 : w2.cell? ⟨w1.heap.size, 0, none⟩ = some zs := by rw [← hw2]; exact (Row.new w1 9 #[zs]).at_ 0 _ rfl
          have HF2 := hid hf2
          have HW2 := hid hw2
          have HN2 := hid hn2
          clear hf2 hw2 hn2 c1
          refine wpAnyH_ready (rs := [8]) (by kernel_rfl) (by simp) ?_
          refine AllReadyH.cons rfl (fun K hK => ?_) AllReadyH.nil
          refine step_append_lies _ rfl (.tmp 23) (.tmp 26) 57 rfl 0 9 i9 _ 1 16 Try.underlying57 hi9 hz90 hz91 hz92 rfl (by decide) v1 k (List.replicate k zs) rfl (HF2.out.own HN.out.la (by simp)) ⟨w1.heap.size, 0, none⟩ 1 1 [zs] rfl rfl (fun j u hu => by match j, hu with | 0, hu => (simp at hu; subst hu; exact HN2.out)) (by intro u hu; simp at hu; subst hu; rfl) (by decide) (le_maxLen (by omega)) (by omega) (Nat.zero_le _) (w1.heap.size + 1) hs2 ?_
          intro g cap w4 ho4 hg4 hat hlt4
          have NW := nw_la HN.out HF2.out ho4 hg4 (by rw [hs2]; exact hat)
          have f40 : w4.frozen? ⟨w.heap.size, 0, none⟩ = false := (Fr.row ((Fr.refl w2 v1.ownBlock.toList).grown hg4 (by intro b hb; exact .inl (by simp [hb]))) (HF2.out.row HN.out.disk (by simp)) (by simpa using HN.out.n1)).frozen 0
          have c40 := (Fr.row ((Fr.refl w2 v1.ownBlock.toList).grown hg4 (by intro b hb; exact .inl (by simp [hb]))) (HF2.out.row HN.out.disk (by simp)) (by simpa using HN.out.n1)).at_ 0 _ rfl
          have HNW := hid NW
          clear NW ho4 hg4 hat hlt4
          simp only [Act.put]
          refine hK.out _ _ trivial (fun _ => ?_)
          clear hK K c2
          refine wpAnyH_take (i := 9) (v := .pointer (some ⟨w.heap.size, 0, none⟩)) rfl (by kernel_rfl) (by kernel_rfl) (by kernel_rfl) (fun _ _ _ h => h) (Or.inl ⟨by rfl, fun w' hw' => by go_simp⟩) trivial ?_
          simp only [Act.put]
          refine wpAnyH_take (i := 10) (v := .pointer (some ⟨w.heap.size, 0, none⟩)) rfl (by kernel_rfl) (by kernel_rfl) (by kernel_rfl) (fun _ _ _ h => h) (Or.inl ⟨by rfl, fun w' hw' => by go_simp⟩) trivial ?_
          simp only [Act.put]
          refine wpAnyH_ready (rs := [11]) (by kernel_rfl) (by simp) ?_
          refine AllReadyH.cons rfl (fun K hK => ?_) AllReadyH.nil
          go_simp
          refine hK.out _ _ trivial (fun _ => ?_)
          clear hK K
          try simp only [Act.put]
          refine wpAnyH_done (by kernel_rfl) ?_ _
          obtain ⟨w5, hw5⟩ : ∃ w5, w4.setCell ⟨w.heap.size, 0, none⟩ (.slice (some ⟨g, 0, none⟩) (k + 1) cap) = w5 := ⟨_, rfl⟩
          rw [hw5] at HNW ⊢
          have c51 := HNW.out.disk.at_ 1 _ rfl
          clear hw5 c40 f40
          go_wp2_with (with_reducible refine wpList_append_lies _ rfl (.tmp 34) (.tmp 35) 58 rfl 0 4 i4 _ 1 1 Try.underlying58 hi4 hz40 hz41 hz42 rfl (by decide) v2 k (List.replicate k (.bool false)) rfl (HNW.out.ma.alloc _) ⟨w5.heap.size, 0, none⟩ 1 1 [.bool false] rfl rfl (one_news _ _ _) HB1.out (by decide) (le_maxLen (by omega)) (by omega) (Nat.zero_le _) (w5.heap.size + 1) (by simp) ?_; intro g' cap' w6 ho6 hg6 hat6 hlt6; have NW := nw_ma HNW.out ((Fr.refl w5 []).alloc _) ho6 hg6 (by simpa using hat6); have r6 := (Fr.grown ((Fr.refl w5 v2.ownBlock.toList).alloc _) hg6 (by intro b hb; exact .inl (by simp [hb]))).row HNW.out.disk (by simpa using HNW.out.n2); have c61 := r6.at_ 1 _ rfl; have f61 := r6.frozen 1; have HNZ := hid NW; clear NW r6 ho6 hg6 hat6 hlt6)
          go_roundw
          case rel => exact ⟨k + 1, by omega, by go_num, _, _, HNZ.out⟩
          case measure => simp [intOf]; omega
        · rw [if_pos (by rfl)]
          refine wp_st (.tmp 24) 69 9 rfl 5 Try.underlying69 Try.underlying5 Try.underlying9 (some ⟨wr.heap.size, 0, none⟩) 384 384 rfl w1.heap.size (b384 0) HR1.out (b384_len 0).symm ?_
          refine hK.out _ _ trivial (fun _ => ?_)
          clear hK K
          try simp only [Act.put]
          refine wpAnyH_ready (rs := [4, 7]) (by kernel_rfl) (by simp) ?_
          refine AllReadyH.cons rfl (fun K hK => ?_) (AllReadyH.cons rfl (fun K hK => ?_) AllReadyH.nil)
          · go_simp
            refine hK.out _ _ trivial (fun _ => ?_)
            clear hK K
            try simp only [Act.put]
            refine wpAnyH_ready (rs := [7]) (by kernel_rfl) (by simp) ?_
            refine AllReadyH.cons rfl (fun K hK => ?_) AllReadyH.nil
            go_simp
            refine hK.out _ _ trivial (fun _ => ?_)
            clear hK K
            try simp only [Act.put]
            obtain ⟨w2, hw2⟩ : ∃ w2, w1.alloc (.cells #[.string ⟨(b384 0).toArray⟩] 9) = w2 := ⟨_, rfl⟩
            rw [hw2]
            have hf2 : Fr wr w2 [] := by rw [← hw2]; exact HF1.out.alloc _
            have hs2 : w2.heap.size = w1.heap.size + 1 := by rw [← hw2]; simp
            have c2 := (hf2.row HN.out.disk (by simp)).at_ 0 _ rfl
            have hn2 : w2.cell? ⟨w1.heap.size, 0, none⟩ = some zs := by rw [← hw2]; exact (Row.new w1 9 #[zs]).at_ 0 _ rfl
            have HF2 := hid hf2
            have HW2 := hid hw2
            have HN2 := hid hn2
            clear hf2 hw2 hn2 c1
            refine wpAnyH_ready (rs := [8]) (by kernel_rfl) (by simp) ?_
            refine AllReadyH.cons rfl (fun K hK => ?_) AllReadyH.nil
            refine step_append_lies _ rfl (.tmp 23) (.tmp 26) 57 rfl 0 9 i9 _ 1 16 Try.underlying57 hi9 hz90 hz91 hz92 rfl (by decide) v1 k (List.replicate k zs) rfl (HF2.out.own HN.out.la (by simp)) ⟨w1.heap.size, 0, none⟩ 1 1 [zs] rfl rfl (fun j u hu => by match j, hu with | 0, hu => (simp at hu; subst hu; exact HN2.out)) (by intro u hu; simp at hu; subst hu; rfl) (by decide) (le_maxLen (by omega)) (by omega) (Nat.zero_le _) (w1.heap.size + 1) hs2 ?_
            intro g cap w4 ho4 hg4 hat hlt4
            have NW := nw_la HN.out HF2.out ho4 hg4 (by rw [hs2]; exact hat)
            have f40 : w4.frozen? ⟨w.heap.size, 0, none⟩ = false := (Fr.row ((Fr.refl w2 v1.ownBlock.toList).grown hg4 (by intro b hb; exact .inl (by simp [hb]))) (HF2.out.row HN.out.disk (by simp)) (by simpa using HN.out.n1)).frozen 0
            have c40 := (Fr.row ((Fr.refl w2 v1.ownBlock.toList).grown hg4 (by intro b hb; exact .inl (by simp [hb]))) (HF2.out.row HN.out.disk (by simp)) (by simpa using HN.out.n1)).at_ 0 _ rfl
            have HNW := hid NW
            clear NW ho4 hg4 hat hlt4
            simp only [Act.put]
            refine hK.out _ _ trivial (fun _ => ?_)
            clear hK K c2
            refine wpAnyH_take (i := 9) (v := .pointer (some ⟨w.heap.size, 0, none⟩)) rfl (by kernel_rfl) (by kernel_rfl) (by kernel_rfl) (fun _ _ _ h => h) (Or.inl ⟨by rfl, fun w' hw' => by go_simp⟩) trivial ?_
            simp only [Act.put]
            refine wpAnyH_take (i := 10) (v := .pointer (some ⟨w.heap.size, 0, none⟩)) rfl (by kernel_rfl) (by kernel_rfl) (by kernel_rfl) (fun _ _ _ h => h) (Or.inl ⟨by rfl, fun w' hw' => by go_simp⟩) trivial ?_
            simp only [Act.put]
            refine wpAnyH_ready (rs := [11]) (by kernel_rfl) (by simp) ?_
            refine AllReadyH.cons rfl (fun K hK => ?_) AllReadyH.nil
            go_simp
            refine hK.out _ _ trivial (fun _ => ?_)
            clear hK K
            try simp only [Act.put]
            refine wpAnyH_done (by kernel_rfl) ?_ _
            obtain ⟨w5, hw5⟩ : ∃ w5, w4.setCell ⟨w.heap.size, 0, none⟩ (.slice (some ⟨g, 0, none⟩) (k + 1) cap) = w5 := ⟨_, rfl⟩
            rw [hw5] at HNW ⊢
            have c51 := HNW.out.disk.at_ 1 _ rfl
            clear hw5 c40 f40
            go_wp2_with (with_reducible refine wpList_append_lies _ rfl (.tmp 34) (.tmp 35) 58 rfl 0 4 i4 _ 1 1 Try.underlying58 hi4 hz40 hz41 hz42 rfl (by decide) v2 k (List.replicate k (.bool false)) rfl (HNW.out.ma.alloc _) ⟨w5.heap.size, 0, none⟩ 1 1 [.bool false] rfl rfl (one_news _ _ _) HB1.out (by decide) (le_maxLen (by omega)) (by omega) (Nat.zero_le _) (w5.heap.size + 1) (by simp) ?_; intro g' cap' w6 ho6 hg6 hat6 hlt6; have NW := nw_ma HNW.out ((Fr.refl w5 []).alloc _) ho6 hg6 (by simpa using hat6); have r6 := (Fr.grown ((Fr.refl w5 v2.ownBlock.toList).alloc _) hg6 (by intro b hb; exact .inl (by simp [hb]))).row HNW.out.disk (by simpa using HNW.out.n2); have c61 := r6.at_ 1 _ rfl; have f61 := r6.frozen 1; have HNZ := hid NW; clear NW r6 ho6 hg6 hat6 hlt6)
            go_roundw
            case rel => exact ⟨k + 1, by omega, by go_num, _, _, HNZ.out⟩
            case measure => simp [intOf]; omega
          · go_simp
            refine hK.out _ _ trivial (fun _ => ?_)
            clear hK K
            try simp only [Act.put]
            obtain ⟨w2, hw2⟩ : ∃ w2, w1.alloc (.cells #[.string ⟨(b384 0).toArray⟩] 9) = w2 := ⟨_, rfl⟩
            rw [hw2]
            have hf2 : Fr wr w2 [] := by rw [← hw2]; exact HF1.out.alloc _
            have hs2 : w2.heap.size = w1.heap.size + 1 := by rw [← hw2]; simp
            have c2 := (hf2.row HN.out.disk (by simp)).at_ 0 _ rfl
            have hn2 : w2.cell? ⟨w1.heap.size, 0, none⟩ = some zs := by rw [← hw2]; exact (Row.new w1 9 #[zs]).at_ 0 _ rfl
            have HF2 := hid hf2
            have HW2 := hid hw2
            have HN2 := hid hn2
            clear hf2 hw2 hn2 c1
            refine wpAnyH_ready (rs := [4]) (by kernel_rfl) (by simp) ?_
            refine AllReadyH.cons rfl (fun K hK => ?_) AllReadyH.nil
            go_simp
            refine hK.out _ _ trivial (fun _ => ?_)
            clear hK K
            try simp only [Act.put]
            refine wpAnyH_ready (rs := [8]) (by kernel_rfl) (by simp) ?_
            refine AllReadyH.cons rfl (fun K hK => ?_) AllReadyH.nil
            refine step_append_lies _ rfl (.tmp 23) (.tmp 26) 57 rfl 0 9 i9 _ 1 16 Try.underlying57 hi9 hz90 hz91 hz92 rfl (by decide) v1 k (List.replicate k zs) rfl (HF2.out.own HN.out.la (by simp)) ⟨w1.heap.size, 0, none⟩ 1 1 [zs] rfl rfl (fun j u hu => by match j, hu with | 0, hu => (simp at hu; subst hu; exact HN2.out)) (by intro u hu; simp at hu; subst hu; rfl) (by decide) (le_maxLen (by omega)) (by omega) (Nat.zero_le _) (w1.heap.size + 1) hs2 ?_
            intro g cap w4 ho4 hg4 hat hlt4
            have NW := nw_la HN.out HF2.out ho4 hg4 (by rw [hs2]; exact hat)
            have f40 : w4.frozen? ⟨w.heap.size, 0, none⟩ = false := (Fr.row ((Fr.refl w2 v1.ownBlock.toList).grown hg4 (by intro b hb; exact .inl (by simp [hb]))) (HF2.out.row HN.out.disk (by simp)) (by simpa using HN.out.n1)).frozen 0
            have c40 := (Fr.row ((Fr.refl w2 v1.ownBlock.toList).grown hg4 (by intro b hb; exact .inl (by simp [hb]))) (HF2.out.row HN.out.disk (by simp)) (by simpa using HN.out.n1)).at_ 0 _ rfl
            have HNW := hid NW
            clear NW ho4 hg4 hat hlt4
            simp only [Act.put]
            refine hK.out _ _ trivial (fun _ => ?_)
            clear hK K c2
            refine wpAnyH_take (i := 9) (v := .pointer (some ⟨w.heap.size, 0, none⟩)) rfl (by kernel_rfl) (by kernel_rfl) (by kernel_rfl) (fun _ _ _ h => h) (Or.inl ⟨by rfl, fun w' hw' => by go_simp⟩) trivial ?_
            simp only [Act.put]
            refine wpAnyH_take (i := 10) (v := .pointer (some ⟨w.heap.size, 0, none⟩)) rfl (by kernel_rfl) (by kernel_rfl) (by kernel_rfl) (fun _ _ _ h => h) (Or.inl ⟨by rfl, fun w' hw' => by go_simp⟩) trivial ?_
            simp only [Act.put]
            refine wpAnyH_ready (rs := [11]) (by kernel_rfl) (by simp) ?_
            refine AllReadyH.cons rfl (fun K hK => ?_) AllReadyH.nil
            go_simp
            refine hK.out _ _ trivial (fun _ => ?_)
            clear hK K
            try simp only [Act.put]
            refine wpAnyH_done (by kernel_rfl) ?_ _
            obtain ⟨w5, hw5⟩ : ∃ w5, w4.setCell ⟨w.heap.size, 0, none⟩ (.slice (some ⟨g, 0, none⟩) (k + 1) cap) = w5 := ⟨_, rfl⟩
            rw [hw5] at HNW ⊢
            have c51 := HNW.out.disk.at_ 1 _ rfl
            clear hw5 c40 f40
            go_wp2_with (with_reducible refine wpList_append_lies _ rfl (.tmp 34) (.tmp 35) 58 rfl 0 4 i4 _ 1 1 Try.underlying58 hi4 hz40 hz41 hz42 rfl (by decide) v2 k (List.replicate k (.bool false)) rfl (HNW.out.ma.alloc _) ⟨w5.heap.size, 0, none⟩ 1 1 [.bool false] rfl rfl (one_news _ _ _) HB1.out (by decide) (le_maxLen (by omega)) (by omega) (Nat.zero_le _) (w5.heap.size + 1) (by simp) ?_; intro g' cap' w6 ho6 hg6 hat6 hlt6; have NW := nw_ma HNW.out ((Fr.refl w5 []).alloc _) ho6 hg6 (by simpa using hat6); have r6 := (Fr.grown ((Fr.refl w5 v2.ownBlock.toList).alloc _) hg6 (by intro b hb; exact .inl (by simp [hb]))).row HNW.out.disk (by simpa using HNW.out.n2); have c61 := r6.at_ 1 _ rfl; have f61 := r6.frozen 1; have HNZ := hid NW; clear NW r6 ho6 hg6 hat6 hlt6)
            go_roundw
            case rel => exact ⟨k + 1, by omega, by go_num, _, _, HNZ.out⟩
            case measure => simp [intOf]; omega
    · obtain rfl : k = n := by omega
      go_wp2_with fail
      go_ret2
      exact nw_end HN.out h1 h2
end Go.Proofs.Ytogchfpecbmocaa
