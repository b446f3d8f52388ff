/-
  The walks of the disk's small methods.
-/
import Derived.Test.YtdkgpjmehdpliaaHas
import Derived.Test.YtdkgpjmehdpliaaRows
namespace Go.Proofs.Ytdkgpjmehdpliaa
open Go.RowKit

def dptr (p : Nat) : Value := .pointer (some ⟨p, 0, none⟩)

theorem has_yes (i : Int) (p gs : Nat) (vw : Value) (S : Sp) (w : World) (h : HasD w p gs vw S) (hi : 0 ≤ i) (hl : i < (S.secs.length : Int)) :
    Calls Try.prog 38 #[dptr p, .int .i64 i] w fun e w' => e = .returned (.bool true) ∧ w = w' := by
  have c0 := h.c0
  unfold dptr
  go_enter Try.func38, Try.ntmps38
  go_wp2
  go_ret
  exact ⟨by simp, rfl⟩
theorem has_no (i : Int) (p gs : Nat) (vw : Value) (S : Sp) (w : World) (h : HasD w p gs vw S) (hi : ¬ (0 ≤ i ∧ i < (S.secs.length : Int))) :
    Calls Try.prog 38 #[dptr p, .int .i64 i] w fun e w' => e = .returned (.bool false) ∧ w = w' := by
  have c0 := h.c0
  unfold dptr
  by_cases h1 : 0 ≤ i
  · have h2 : ¬ i < (S.secs.length : Int) := fun h2 => hi ⟨h1, h2⟩
    clear hi
    go_enter Try.func38, Try.ntmps38
    go_wp2
    go_ret
    exact ⟨by simp, rfl⟩
  · have h2 : decide (0 ≤ i) = false := by simp; omega
    clear hi
    go_enter Try.func38, Try.ntmps38
    go_wp2
    go_ret
    exact ⟨by simp, rfl⟩
theorem has_any (i : Int) (p gs : Nat) (vw : Value) (S : Sp) (w : World) (h : HasD w p gs vw S) :
    Calls Try.prog 38 #[dptr p, .int .i64 i] w fun e w' => e = .returned (.bool (decide (S.is i))) ∧ w = w' := by
  by_cases hi : S.is i
  · rw [decide_eq_true hi]; exact has_yes i p gs vw S w h hi.1 hi.2
  · rw [decide_eq_false hi]; exact has_no i p gs vw S w h hi

/-- what a call of the disk leaves: its answer; the disk; nothing else has turned -/
def DE (w : World) (p gs : Nat) (vw : Value) (r : Sp × Int) (e : Ending) (w' : World) : Prop :=
  ∃ vw', e = .returned (.int .i64 r.2) ∧ HasD w' p gs vw' r.1 ∧ Fr w w' (fpD p gs vw) ∧ (∀ g, vw'.ownBlock = some g → vw.ownBlock = some g ∨ w.heap.size ≤ g)

theorem power_calls (p gs : Nat) (vw : Value) (S : Sp) (w : World) (h : HasD w p gs vw S) :
    Calls Try.prog 39 #[dptr p] w fun e w' => e = .returned (.tuple #[]) ∧ HasD w' p gs vw { S with on := false, left := 0 } ∧ Fr w w' [p] := by
  have c2 := h.c2
  have c3 := h.c3
  have f2 := h.f 2
  have f3 := h.f 3
  unfold dptr
  go_enter Try.func39, Try.ntmps39
  go_wp2
  go_end0
  have hf : Fr w ((w.setCell ⟨p, 2, none⟩ (.bool false)).setCell ⟨p, 3, none⟩ (.int .i64 0)) [p] := ((Fr.refl w [p]).setCell (p := ⟨p, 2, none⟩) (by simp) _).setCell (p := ⟨p, 3, none⟩) (by simp) _
  exact ⟨rfl, h.put hf ((h.disk.set_ 2 _).set_ 3 _) (by omega) h.wf.less, hf⟩
end Go.Proofs.Ytdkgpjmehdpliaa
