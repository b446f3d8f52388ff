/-
  Lemmas for the walk of settle: what has been settled behind k writes.
-/
import Derived.Test.YtdkgpjmehdpliaaKept
namespace Go.Proofs.Ytdkgpjmehdpliaa
open Go.RowKit

def nz (way : List Wr) (k i : Nat) : Nat := if (way.take k).any (fun x => x.place == i) then 0 else newest way i
theorem nz_zero (way : List Wr) : nz way 0 = newest way := by funext i; simp [nz]
theorem nz_full (way : List Wr) : nz way way.length = newest [] := by
  funext i
  simp only [nz, List.take_length, newest_nil]
  split
  · rfl
  · rename_i h
    rw [newest_zero]
    intro x hx e
    apply h
    rw [List.any_eq_true]
    exact ⟨x, hx, by simp [e]⟩
theorem nz_here (way : List Wr) (k : Nat) (hk : k < way.length) : 0 = nz way (k + 1) way[k].place := by
  simp only [nz]
  rw [if_pos]
  rw [List.any_eq_true]
  exact ⟨way[k], List.mem_take_iff_getElem.2 ⟨k, by omega, rfl⟩, by simp⟩
theorem nz_there (way : List Wr) (k : Nat) (hk : k < way.length) (j : Nat) (hj : j ≠ way[k].place) : nz way (k + 1) j = nz way k j := by
  simp only [nz]
  rw [List.take_succ_eq_append_getElem hk, List.any_append]
  simp [Ne.symm hj]
theorem sett_step (F : Nat → Nat) (way : List Wr) (secs : List Sec) (k : Nat) (hk : k < way.length) (hi : way[k].place < (sett F (way.take k) secs).length) :
    sett F (way.take (k + 1)) secs = (sett F (way.take k) secs).set way[k].place (takeS (sett F (way.take k) secs)[way[k].place] way[k].bytes (F k)) := by
  have e : (List.take k way).length = k := by rw [List.length_take]; omega
  rw [List.take_succ_eq_append_getElem hk, sett_snoc, e]
  apply List.ext_getElem?
  intro j
  rw [List.getElem?_modify, List.getElem?_set]
  by_cases hj : way[k].place = j
  · subst hj
    simp [hi]
  · simp [hj]

theorem Fr.undrew {w w' : World} {n : Nat} {fp : List Nat} (h : Fr (w.drewN n) w' fp) : Fr w w' fp := ⟨h.os, h.tape, h.output, h.size, h.block⟩

set_option maxRecDepth 10000 in
theorem slice_head (a : Addr) (c : Nat) (hc : c ≤ 384) (w : World) :
    (Instr.sliceAt 67 (.pointer (some a)) none (some (.int .i64 (c : Int))) none).run Try.prog w = .ok (.slice (some a) c 384) w := by
  simp [Instr.sliceAt, Instr.sliceBounds, Instr.sliceBound, go_sem]
  omega

/-- the facts of round k -/
structure Rnd (wr : World) (gs : Nat) (S : Sp) (F : Nat → Nat) (k : Nat) : Prop where
  row : Row wr gs 69 (secRows (sett F (S.way.take k) S.secs) (nz S.way k)).flatten

theorem rnd_end {w1 : World} {gs : Nat} {S : Sp} {F : Nat → Nat} {k : Nat} (hw : S.WF) (hF : ∀ k, F k ≤ 384) (hk : k < S.way.length) (hi : S.way[k].place < (sett F (S.way.take k) S.secs).length)
    (hr : Row w1 gs 69 (secRows ((sett F (S.way.take k) S.secs).set S.way[k].place (takeS (sett F (S.way.take k) S.secs)[S.way[k].place] S.way[k].bytes (F k))) (nz S.way k)).flatten) :
    (∃ u, w1.cell? ⟨gs, S.way[k].place * 386 + 385, none⟩ = some u) ∧ Rnd (w1.setCell ⟨gs, S.way[k].place * 386 + 385, none⟩ (.int .i64 0)) gs S F (k + 1) := by
  have hl := sett_wf F hF (S.way.take k) S.secs hw.len (fun x hx => (hw.way x (List.mem_of_mem_take hx)).2)
  have hl2 := set_wf _ hl S.way[k].place _ (takeS_len _ S.way[k].bytes (F k) (hl _ (List.getElem_mem hi)) (hw.way _ (List.getElem_mem hk)).2 (hF k))
  have hi2 : S.way[k].place < ((sett F (S.way.take k) S.secs).set S.way[k].place (takeS (sett F (S.way.take k) S.secs)[S.way[k].place] S.way[k].bytes (F k))).length := by simpa using hi
  refine ⟨⟨_, hr.at_ _ _ (sec_newest _ _ hl2 _ hi2)⟩, ⟨?_⟩⟩
  have h2 := hr.set_ (S.way[k].place * 386 + 385) (.int .i64 ((0 : Nat) : Int))
  rw [sec_new _ (nz S.way k) (nz S.way (k + 1)) hl2 _ hi2 0 (nz_here S.way k hk) (fun j hj => nz_there S.way k hk j hj)] at h2
  rw [sett_step F S.way S.secs k hk hi]
  exact h2

theorem HasD.settled {w w1 : World} {p gs : Nat} {vw : Value} {S : Sp} {F : Nat → Nat} (hF : ∀ k, F k ≤ 384) (h : HasD w p gs vw S) (hf : Fr w w1 [gs]) (hr : Rnd w1 gs S F S.way.length) :
    HasD (w1.setCell ⟨p, 1, none⟩ (.slice none 0 0)) p gs (.slice none 0 0) { S with secs := sett F S.way S.secs, way := [] } ∧ Fr w (w1.setCell ⟨p, 1, none⟩ (.slice none 0 0)) [p, gs] := by
  have hd := (hf.row h.disk (by simpa using h.ne1)).set_ 1 (.slice none 0 0)
  have hr' := hr.row
  rw [List.take_length, nz_full] at hr'
  refine ⟨⟨?_, hr'.far (p := ⟨p, 1, none⟩) (Ne.symm h.ne1) _, World.ownsRow_nil _ _ _ _, h.ne1, by simp [Value.ownBlock], by simp [Value.ownBlock], ?_⟩, ?_⟩
  · have e := sett_length F S.way S.secs
    simpa [e] using hd
  · exact ⟨sett_wf F hF S.way S.secs h.wf.len (fun x hx => (h.wf.way x hx).2), by simp, by simpa [sett_length] using h.wf.few, h.wf.left, by simp⟩
  · exact (hf.mono (fq := [p, gs]) (by simp)).setCell (p := ⟨p, 1, none⟩) (by simp) _
end Go.Proofs.Ytdkgpjmehdpliaa
