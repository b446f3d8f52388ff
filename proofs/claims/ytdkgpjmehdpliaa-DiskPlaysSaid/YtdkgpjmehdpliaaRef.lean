/-
  The answer's own disk in memory; its small calls.
-/
import Derived.Test.YtdkgpjmehdpliaaPlay
namespace Go.Proofs.Ytdkgpjmehdpliaa
open Go.RowKit

def laCells (S : Sp) : List Value := S.secs.map (fun s => str s.lasts)
def maCells (S : Sp) : List Value := S.secs.map (fun s => Value.bool s.marked)
def wyRows (way : List Wr) : List (List Value) := way.map (fun x => [.int .i64 (x.place : Int), str x.bytes])
theorem wyRows_len (way : List Wr) : ∀ r ∈ wyRows way, r.length = 2 := by
  intro r hr
  obtain ⟨x, _, rfl⟩ := List.mem_map.1 hr
  rfl

/-- the disk S lies at q, as the answer keeps it -/
structure HasR (w : World) (q gl gm cl cm : Nat) (vw : Value) (S : Sp) : Prop where
  disk : Row w q 40 [.slice (some ⟨gl, 0, none⟩) S.secs.length cl, .slice (some ⟨gm, 0, none⟩) S.secs.length cm, vw, .bool (!S.on), .int .i64 (S.left : Int), .int .i64 (S.count : Int)]
  la : w.ownsRow 0 9 1 (.slice (some ⟨gl, 0, none⟩) S.secs.length cl) S.secs.length (laCells S)
  ma : w.ownsRow 0 4 1 (.slice (some ⟨gm, 0, none⟩) S.secs.length cm) S.secs.length (maCells S)
  wy : w.ownsRow 0 73 2 vw S.way.length (wyRows S.way).flatten
  n1 : q ≠ gl
  n2 : q ≠ gm
  n3 : gl ≠ gm
  n4 : vw.ownBlock ≠ some q
  n5 : vw.ownBlock ≠ some gl
  n6 : vw.ownBlock ≠ some gm
  wf : S.WF
def fpR (q gl gm : Nat) (vw : Value) : List Nat := q :: gl :: gm :: vw.ownBlock.toList

section
variable {w w' : World} {q gl gm cl cm : Nat} {vw : Value} {S : Sp}
theorem HasR.fr {fp : List Nat} (h : HasR w q gl gm cl cm vw S) (hf : Fr w w' fp) (hd : ∀ b ∈ fpR q gl gm vw, b ∉ fp) : HasR w' q gl gm cl cm vw S :=
  ⟨hf.row h.disk (hd q (by simp [fpR])), hf.own h.la (fun g hg => by cases hg; exact hd _ (by simp [fpR])), hf.own h.ma (fun g hg => by cases hg; exact hd _ (by simp [fpR])), hf.own h.wy (fun g hg => hd g (by simp [fpR, hg])), h.n1, h.n2, h.n3, h.n4, h.n5, h.n6, h.wf⟩
theorem HasR.lt (h : HasR w q gl gm cl cm vw S) : ∀ b ∈ fpR q gl gm vw, b < w.heap.size := by
  intro b hb
  simp only [fpR, List.mem_cons, Option.mem_toList] at hb
  rcases hb with rfl | rfl | rfl | hb
  · exact h.disk.lt
  · exact (h.la.lt _ rfl).2
  · exact (h.ma.lt _ rfl).2
  · exact (h.wy.lt b hb).2
theorem HasR.drewN (h : HasR w q gl gm cl cm vw S) (n : Nat) : HasR (w.drewN n) q gl gm cl cm vw S := ⟨h.disk, h.la, h.ma, h.wy, h.n1, h.n2, h.n3, h.n4, h.n5, h.n6, h.wf⟩
theorem HasR.c0 (h : HasR w q gl gm cl cm vw S) : w.cell? ⟨q, 0, none⟩ = some (.slice (some ⟨gl, 0, none⟩) S.secs.length cl) := h.disk.at_ 0 _ rfl
theorem HasR.c1 (h : HasR w q gl gm cl cm vw S) : w.cell? ⟨q, 1, none⟩ = some (.slice (some ⟨gm, 0, none⟩) S.secs.length cm) := h.disk.at_ 1 _ rfl
theorem HasR.c2 (h : HasR w q gl gm cl cm vw S) : w.cell? ⟨q, 2, none⟩ = some vw := h.disk.at_ 2 _ rfl
theorem HasR.c3 (h : HasR w q gl gm cl cm vw S) : w.cell? ⟨q, 3, none⟩ = some (.bool (!S.on)) := h.disk.at_ 3 _ rfl
theorem HasR.c4 (h : HasR w q gl gm cl cm vw S) : w.cell? ⟨q, 4, none⟩ = some (.int .i64 (S.left : Int)) := h.disk.at_ 4 _ rfl
theorem HasR.c5 (h : HasR w q gl gm cl cm vw S) : w.cell? ⟨q, 5, none⟩ = some (.int .i64 (S.count : Int)) := h.disk.at_ 5 _ rfl
theorem HasR.f (h : HasR w q gl gm cl cm vw S) (i : Nat) : w.frozen? ⟨q, i, none⟩ = false := h.disk.frozen i
theorem HasR.lc (h : HasR w q gl gm cl cm vw S) (k : Nat) (hk : k < S.secs.length) : w.cell? ⟨gl, k, none⟩ = some (str S.secs[k].lasts) := by
  rw [h.la.cellAt k (by omega), laCells, List.getElem?_map, List.getElem?_eq_getElem hk]
  rfl
theorem HasR.mc (h : HasR w q gl gm cl cm vw S) (k : Nat) (hk : k < S.secs.length) : w.cell? ⟨gm, k, none⟩ = some (.bool S.secs[k].marked) := by
  rw [h.ma.cellAt k (by omega), maCells, List.getElem?_map, List.getElem?_eq_getElem hk]
  rfl
theorem HasR.wyShape (h : HasR w q gl gm cl cm vw S) (hk : 0 < S.way.length) : ∃ g c, vw = .slice (some ⟨g, 0, none⟩) S.way.length c := by
  rcases h.wy.2 with ⟨_, h0⟩ | ⟨g, cap, cur, hv, _, hg, hc, _⟩
  · omega
  · exact ⟨g, cap, hv⟩
theorem HasR.wc (h : HasR w q gl gm cl cm vw S) (k : Nat) (hk : k < S.way.length) (g c : Nat) (hv : vw = .slice (some ⟨g, 0, none⟩) S.way.length c) :
    w.cell? ⟨g, k * 2, none⟩ = some (.int .i64 (S.way[k].place : Int)) ∧ w.cell? ⟨g, k * 2 + 1, none⟩ = some (str S.way[k].bytes) := by
  have ho := h.wy
  rw [hv] at ho
  have e : ∀ j, j < 2 → (wyRows S.way).flatten[k * 2 + j]? = ([.int .i64 (S.way[k].place : Int), str S.way[k].bytes] : List Value)[j]? := by
    intro j hj
    rw [flat_get 2 _ k j (wyRows_len _) hj, wyRows, List.getElem?_map, List.getElem?_eq_getElem hk]
    rfl
  refine ⟨?_, ?_⟩
  · have := ho.cellAt (k * 2 + 0) (by omega)
    rw [e 0 (by omega)] at this
    simpa using this
  · have := ho.cellAt (k * 2 + 1) (by omega)
    rw [e 1 (by omega)] at this
    simpa using this
/-- fields off, left, count are turned -/
theorem HasR.put {o2 : Bool} {l c : Nat} (h : HasR w q gl gm cl cm vw S) (hf : Fr w w' [q])
    (hd : Row w' q 40 [.slice (some ⟨gl, 0, none⟩) S.secs.length cl, .slice (some ⟨gm, 0, none⟩) S.secs.length cm, vw, .bool (!o2), .int .i64 (l : Int), .int .i64 (c : Int)])
    (hl : l ≤ 9223372036854775807) (hc : S.way.length ≤ c) : HasR w' q gl gm cl cm vw { S with on := o2, left := l, count := c } :=
  ⟨hd, hf.own h.la (fun g hg => by cases hg; simpa using Ne.symm h.n1), hf.own h.ma (fun g hg => by cases hg; simpa using Ne.symm h.n2), hf.own h.wy (fun g hg => by simp; rintro rfl; exact h.n4 hg), h.n1, h.n2, h.n3, h.n4, h.n5, h.n6, ⟨h.wf.len, h.wf.way, h.wf.few, hl, hc⟩⟩
end
/-- what a call leaves -/
def RE (w : World) (q gl gm cl cm : Nat) (vw : Value) (r : Sp × Int) (e : Ending) (w' : World) : Prop :=
  ∃ vw', e = .returned (.int .i64 r.2) ∧ HasR w' q gl gm cl cm vw' r.1 ∧ Fr w w' (fpR q gl gm vw) ∧ (∀ g, vw'.ownBlock = some g → vw.ownBlock = some g ∨ w.heap.size ≤ g)

theorem ris_any (i : Int) (q gl gm cl cm : Nat) (vw : Value) (S : Sp) (w : World) (h : HasR w q gl gm cl cm vw S) :
    Calls Try.prog 20 #[dptr q, .int .i64 i] w fun e w' => e = .returned (.bool (decide (S.is i))) ∧ w = w' := by
  have c0 := h.c0
  unfold dptr
  by_cases hi : S.is i
  · rw [decide_eq_true hi]
    obtain ⟨h1, h2⟩ := hi
    go_enter Try.func20, Try.ntmps20
    go_wp2
    go_ret
    exact ⟨by simp, rfl⟩
  · rw [decide_eq_false hi]
    by_cases h1 : 0 ≤ i
    · have h2 : ¬ i < (S.secs.length : Int) := fun h2 => hi ⟨h1, h2⟩
      clear hi
      go_enter Try.func20, Try.ntmps20
      go_wp2
      go_ret
      exact ⟨by simp, rfl⟩
    · have h2 : decide (0 ≤ i) = false := by simp; omega
      clear hi
      go_enter Try.func20, Try.ntmps20
      go_wp2
      go_ret
      exact ⟨by simp, rfl⟩

theorem rgoes_off (q gl gm cl cm : Nat) (vw : Value) (S : Sp) (w : World) (h : HasR w q gl gm cl cm vw S) (ho : S.on = false) :
    Calls Try.prog 45 #[dptr q] w fun e w' => e = .returned (.bool false) ∧ w = w' := by
  have c3 := h.c3
  rw [ho] at c3
  unfold dptr
  go_enter Try.func45, Try.ntmps45
  go_wp2
  go_ret
  exact ⟨rfl, rfl⟩
theorem rgoes_end (q gl gm cl cm : Nat) (vw : Value) (S : Sp) (w : World) (h : HasR w q gl gm cl cm vw S) (l : Int) (hle : l = ((S.left - 1 : Nat) : Int)) :
    HasR ((w.setCell ⟨q, 5, none⟩ (.int .i64 ((S.count : Int) + 1))).setCell ⟨q, 4, none⟩ (.int .i64 l)) q gl gm cl cm vw { S with left := S.left - 1, count := S.count + 1 } ∧
      Fr w ((w.setCell ⟨q, 5, none⟩ (.int .i64 ((S.count : Int) + 1))).setCell ⟨q, 4, none⟩ (.int .i64 l)) [q] := by
  subst hle
  have hf : Fr w ((w.setCell ⟨q, 5, none⟩ (.int .i64 ((S.count : Int) + 1))).setCell ⟨q, 4, none⟩ (.int .i64 ((S.left - 1 : Nat) : Int))) [q] := ((Fr.refl w [q]).setCell (p := ⟨q, 5, none⟩) (by simp) _).setCell (p := ⟨q, 4, none⟩) (by simp) _
  exact ⟨h.put (o2 := S.on) hf ((h.disk.set_ 5 _).set_ 4 _) (by have := h.wf.left; omega) (by have := h.wf.less; omega), hf⟩
theorem rgoes_zero (q gl gm cl cm : Nat) (vw : Value) (S : Sp) (w : World) (h : HasR w q gl gm cl cm vw S) (hl : S.left = 0) :
    HasR (w.setCell ⟨q, 5, none⟩ (.int .i64 ((S.count : Int) + 1))) q gl gm cl cm vw { S with left := S.left - 1, count := S.count + 1 } ∧ Fr w (w.setCell ⟨q, 5, none⟩ (.int .i64 ((S.count : Int) + 1))) [q] := by
  have hf : Fr w (w.setCell ⟨q, 5, none⟩ (.int .i64 ((S.count : Int) + 1))) [q] := (Fr.refl w [q]).setCell (p := ⟨q, 5, none⟩) (by simp) _
  have e : S.left - 1 = S.left := by omega
  rw [e]
  exact ⟨h.put (o2 := S.on) (l := S.left) hf (h.disk.set_ 5 _) h.wf.left (by have := h.wf.less; omega), hf⟩
theorem rgoes_last (q gl gm cl cm : Nat) (vw : Value) (S : Sp) (w : World) (h : HasR w q gl gm cl cm vw S) :
    HasR (((w.setCell ⟨q, 5, none⟩ (.int .i64 ((S.count : Int) + 1))).setCell ⟨q, 3, none⟩ (.bool true)).setCell ⟨q, 4, none⟩ (.int .i64 0)) q gl gm cl cm vw { S with on := false, left := 0, count := S.count + 1 } ∧
      Fr w (((w.setCell ⟨q, 5, none⟩ (.int .i64 ((S.count : Int) + 1))).setCell ⟨q, 3, none⟩ (.bool true)).setCell ⟨q, 4, none⟩ (.int .i64 0)) [q] := by
  have hf : Fr w (((w.setCell ⟨q, 5, none⟩ (.int .i64 ((S.count : Int) + 1))).setCell ⟨q, 3, none⟩ (.bool true)).setCell ⟨q, 4, none⟩ (.int .i64 0)) [q] :=
    (((Fr.refl w [q]).setCell (p := ⟨q, 5, none⟩) (by simp) _).setCell (p := ⟨q, 3, none⟩) (by simp) _).setCell (p := ⟨q, 4, none⟩) (by simp) _
  exact ⟨h.put (o2 := false) (l := 0) hf (((h.disk.set_ 5 _).set_ 3 _).set_ 4 _) (by omega) (by have := h.wf.less; omega), hf⟩

/-- a call that counts: does the power stay? -/
theorem rgoes_any (q gl gm cl cm : Nat) (vw : Value) (S : Sp) (w : World) (h : HasR w q gl gm cl cm vw S) (hc : S.count ≤ 4611686018427387904) :
    Calls Try.prog 45 #[dptr q] w fun e w' => e = .returned (.bool (S.goes.2 == 0)) ∧ HasR w' q gl gm cl cm vw S.goes.1 ∧ Fr w w' [q] := by
  cases ho : S.on with
  | false =>
    rw [Sp.goes_off ho]
    refine (rgoes_off q gl gm cl cm vw S w h ho).mono ?_
    rintro e w' ⟨rfl, rfl⟩
    exact ⟨rfl, h, Fr.refl _ _⟩
  | true =>
    have c3 := h.c3
    have c4 := h.c4
    have c5 := h.c5
    have f3 := h.f 3
    have f4 := h.f 4
    have f5 := h.f 5
    have hw := h.wf.left
    rw [ho] at c3
    by_cases h1 : S.left = 1
    · rw [Sp.goes_one ho h1]
      rw [h1] at c4
      have HE := hid (rgoes_last q gl gm cl cm vw S w h)
      clear ho h1
      unfold dptr
      go_enter Try.func45, Try.ntmps45
      go_wp2_with fail
      all_goals (go_ret; exact ⟨rfl, HE.out⟩)
    · rw [Sp.goes_more ho h1]
      have hl1 : ((S.left : Int) == 1) = false := by simp; omega
      by_cases h0 : S.left = 0
      · have HE := hid (rgoes_zero q gl gm cl cm vw S w h h0)
        have c4' := c4
        rw [h0] at c4'
        clear c4 hl1
        have HO := hid ho
        clear ho h1 h0
        unfold dptr
        go_enter Try.func45, Try.ntmps45
        go_wp2_with fail
        all_goals (go_ret; exact ⟨rfl, HE.out⟩)
      · have HE := hid (rgoes_end q gl gm cl cm vw S w h)
        have hl0 : 0 < (S.left : Int) := by omega
        have HO := hid ho
        have HL : Hid ((S.left : Int) - 1 = ((S.left - 1 : Nat) : Int)) := hid (by omega)
        clear ho h1 h0
        unfold dptr
        go_enter Try.func45, Try.ntmps45
        go_wp2_with fail
        all_goals (go_ret; exact ⟨rfl, HE.out _ HL.out⟩)
end Go.Proofs.Ytdkgpjmehdpliaa
