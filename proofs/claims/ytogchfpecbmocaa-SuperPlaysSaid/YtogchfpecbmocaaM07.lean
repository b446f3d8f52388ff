/-
  The walks of the disk's small methods.
-/
import Derived.Test.YtogchfpecbmocaaM06
import Derived.Test.YtogchfpecbmocaaRows
namespace Go.Proofs.Ytogchfpecbmocaa
open Go.RowKit

def dptr (p : Nat) : Value := .pointer (some ⟨p, 0, none⟩)
theorem has_yes (i : Int) (p gs : Nat) (vw : Value) (S : Sp) (w : World) (h : HasD w p gs vw S) (hi : 0 ≤ i) (hl : i < (S.secs.length : Int)) :
    Calls Try.prog 58 #[dptr p, .int .i64 i] w fun e w' => e = .returned (.bool true) ∧ w = w' := by
  have c0 := h.c0
  unfold dptr
  go_enter Try.func58, Try.ntmps58
  go_wp2
  go_ret
  exact ⟨by simp, rfl⟩
theorem has_no (i : Int) (p gs : Nat) (vw : Value) (S : Sp) (w : World) (h : HasD w p gs vw S) (hi : ¬ (0 ≤ i ∧ i < (S.secs.length : Int))) :
    Calls Try.prog 58 #[dptr p, .int .i64 i] w fun e w' => e = .returned (.bool false) ∧ w = w' := by
  have c0 := h.c0
  unfold dptr
  by_cases h1 : 0 ≤ i
  · have h2 : ¬ i < (S.secs.length : Int) := fun h2 => hi ⟨h1, h2⟩
    clear hi
    go_enter Try.func58, Try.ntmps58
    go_wp2
    go_ret
    exact ⟨by simp, rfl⟩
  · have h2 : decide (0 ≤ i) = false := by simp; omega
    clear hi
    go_enter Try.func58, Try.ntmps58
    go_wp2
    go_ret
    exact ⟨by simp, rfl⟩
theorem has_any (i : Int) (p gs : Nat) (vw : Value) (S : Sp) (w : World) (h : HasD w p gs vw S) :
    Calls Try.prog 58 #[dptr p, .int .i64 i] w fun e w' => e = .returned (.bool (decide (S.is i))) ∧ w = w' := by
  by_cases hi : S.is i
  · rw [decide_eq_true hi]; exact has_yes i p gs vw S w h hi.1 hi.2
  · rw [decide_eq_false hi]; exact has_no i p gs vw S w h hi
/-- what a call of the disk leaves: its answer; the disk; nothing else has turned -/
def DE (w : World) (p gs : Nat) (vw : Value) (r : Sp × Int) (e : Ending) (w' : World) : Prop :=
  ∃ vw', e = .returned (.int .i64 r.2) ∧ HasD w' p gs vw' r.1 ∧ Fr w w' (fpD p gs vw) ∧ (∀ g, vw'.ownBlock = some g → vw.ownBlock = some g ∨ w.heap.size ≤ g)
theorem power_calls (p gs : Nat) (vw : Value) (S : Sp) (w : World) (h : HasD w p gs vw S) :
    Calls Try.prog 52 #[dptr p] w fun e w' => e = .returned (.tuple #[]) ∧ HasD w' p gs vw { S with on := false, left := 0 } ∧ Fr w w' [p] := by
  have c2 := h.c2
  have c3 := h.c3
  have f2 := h.f 2
  have f3 := h.f 3
  unfold dptr
  go_enter Try.func52, Try.ntmps52
  go_wp2
  go_end0
  have hf : Fr w ((w.setCell ⟨p, 2, none⟩ (.bool false)).setCell ⟨p, 3, none⟩ (.int .i64 0)) [p] := ((Fr.refl w [p]).setCell (p := ⟨p, 2, none⟩) (by simp) _).setCell (p := ⟨p, 3, none⟩) (by simp) _
  exact ⟨rfl, h.put hf ((h.disk.set_ 2 _).set_ 3 _) (by omega) h.wf.less, hf⟩
end Go.Proofs.Ytogchfpecbmocaa
/-
  The walks of step, Fuse, Cut, and of the questions On, Marked, Pending, Steps.
-/
namespace Go.Proofs.Ytogchfpecbmocaa
open Go.RowKit

theorem goes_off (p gs : Nat) (vw : Value) (S : Sp) (w : World) (h : HasD w p gs vw S) (ho : S.on = false) :
    Calls Try.prog 79 #[dptr p] w fun e w' => e = .returned (.int .i64 6) ∧ w = w' := by
  have c2 := h.c2
  rw [ho] at c2
  unfold dptr
  go_enter Try.func79, Try.ntmps79
  go_wp2
  go_ret
  exact ⟨rfl, rfl⟩
theorem goes_one (p gs : Nat) (vw : Value) (S : Sp) (w : World) (h : HasD w p gs vw S) (ho : S.on = true) (hl : S.left = 1) (hc : S.count ≤ 4611686018427387904) :
    Calls Try.prog 79 #[dptr p] w fun e w' => e = .returned (.int .i64 6) ∧ HasD w' p gs vw { S with on := false, left := 0, count := S.count + 1 } ∧ Fr w w' [p] := by
  have c2 := h.c2
  have c3 := h.c3
  have c4 := h.c4
  have f4 := h.f 4
  have hd := h.disk
  rw [ho] at c2
  rw [hl] at c3
  have hf : Fr w (w.setCell ⟨p, 4, none⟩ (.int .i64 ((S.count : Int) + 1))) [p] := (Fr.refl w [p]).setCell (p := ⟨p, 4, none⟩) (by simp) _
  have HN : HasD (w.setCell ⟨p, 4, none⟩ (.int .i64 ((S.count : Int) + 1))) p gs vw { S with count := S.count + 1 } := by
    exact h.put (o2 := S.on) (l := S.left) hf (h.disk.set_ 4 _) h.wf.left (by have := h.wf.less; omega)
  have HF := hid hf
  clear hf hd ho hl
  unfold dptr
  go_enter Try.func79, Try.ntmps79
  go_wp2_with (go_at_call 52; refine (power_calls p gs vw _ _ HN).mono ?_; rintro e w1 ⟨rfl, h1, hf1⟩)
  go_ret
  exact ⟨rfl, h1, HF.out.trans hf1 (by simp)⟩
theorem goes_end (p gs : Nat) (vw : Value) (S : Sp) (w : World) (h : HasD w p gs vw S) (l : Int) (hl : l = ((S.left - 1 : Nat) : Int)) :
    HasD ((w.setCell ⟨p, 4, none⟩ (.int .i64 ((S.count : Int) + 1))).setCell ⟨p, 3, none⟩ (.int .i64 l)) p gs vw { S with left := S.left - 1, count := S.count + 1 } ∧
      Fr w ((w.setCell ⟨p, 4, none⟩ (.int .i64 ((S.count : Int) + 1))).setCell ⟨p, 3, none⟩ (.int .i64 l)) [p] := by
  subst hl
  have hf : Fr w ((w.setCell ⟨p, 4, none⟩ (.int .i64 ((S.count : Int) + 1))).setCell ⟨p, 3, none⟩ (.int .i64 ((S.left - 1 : Nat) : Int))) [p] := ((Fr.refl w [p]).setCell (p := ⟨p, 4, none⟩) (by simp) _).setCell (p := ⟨p, 3, none⟩) (by simp) _
  exact ⟨h.put (o2 := S.on) hf ((h.disk.set_ 4 _).set_ 3 _) (by have := h.wf.left; omega) (by have := h.wf.less; omega), hf⟩
theorem goes_more (p gs : Nat) (vw : Value) (S : Sp) (w : World) (h : HasD w p gs vw S) (ho : S.on = true) (hl : S.left ≠ 1) (hc : S.count ≤ 4611686018427387904) :
    Calls Try.prog 79 #[dptr p] w fun e w' => e = .returned (.int .i64 0) ∧ HasD w' p gs vw { S with left := S.left - 1, count := S.count + 1 } ∧ Fr w w' [p] := by
  have c2 := h.c2
  have c3 := h.c3
  have c4 := h.c4
  have f4 := h.f 4
  have f3 := h.f 3
  have hw := h.wf.left
  rw [ho] at c2
  have hl1 : ((S.left : Int) == 1) = false := by simp; omega
  clear hl ho
  have HE := hid (goes_end p gs vw S w h)
  unfold dptr
  go_enter Try.func79, Try.ntmps79
  go_wp2_with fail
  all_goals (go_ret; exact ⟨rfl, HE.out _ (by omega)⟩)
theorem Sp.goes_off {S : Sp} (h : S.on = false) : S.goes = (S, 6) := by unfold Sp.goes; rw [if_pos h]
theorem Sp.goes_one {S : Sp} (h : S.on = true) (h1 : S.left = 1) : S.goes = ({ S with on := false, left := 0, count := S.count + 1 }, 6) := by
  unfold Sp.goes; rw [if_neg (by simp [h]), if_pos h1]
theorem Sp.goes_more {S : Sp} (h : S.on = true) (h1 : S.left ≠ 1) : S.goes = ({ S with left := S.left - 1, count := S.count + 1 }, 0) := by
  unfold Sp.goes; rw [if_neg (by simp [h]), if_neg h1]
theorem goes_any (p gs : Nat) (vw : Value) (S : Sp) (w : World) (h : HasD w p gs vw S) (hc : S.count ≤ 4611686018427387904) :
    Calls Try.prog 79 #[dptr p] w fun e w' => e = .returned (.int .i64 S.goes.2) ∧ HasD w' p gs vw S.goes.1 ∧ Fr w w' [p] := by
  cases ho : S.on with
  | false =>
    rw [Sp.goes_off ho]
    refine (goes_off p gs vw S w h ho).mono ?_
    rintro e w' ⟨rfl, rfl⟩
    exact ⟨rfl, h, Fr.refl _ _⟩
  | true =>
    by_cases h1 : S.left = 1
    · rw [Sp.goes_one ho h1]
      exact goes_one p gs vw S w h ho h1 hc
    · rw [Sp.goes_more ho h1]
      exact goes_more p gs vw S w h ho h1 hc
/-! ### Fuse, Cut -/
theorem fuse_any (p gs : Nat) (vw : Value) (S : Sp) (n : Int) (w : World) (h : HasD w p gs vw S) (hn : n ≤ 9223372036854775807) :
    Calls Try.prog 21 #[dptr p, .int .i64 n] w fun e w' => e = .returned (.int .i64 (S.fuse n).2) ∧ HasD w' p gs vw (S.fuse n).1 ∧ Fr w w' [p] := by
  have c2 := h.c2
  have c3 := h.c3
  have f3 := h.f 3
  cases ho : S.on with
  | false =>
    rw [ho] at c2
    have e : S.fuse n = (S, 6) := by unfold Sp.fuse; rw [if_pos ho]
    rw [e]
    clear e
    have HO := hid ho
    clear ho
    unfold dptr
    go_enter Try.func21, Try.ntmps21
    go_wp2_with fail
    go_ret
    exact ⟨rfl, h, Fr.refl _ _⟩
  | true =>
    rw [ho] at c2
    have e : S.fuse n = ({ S with left := n.toNat }, 0) := by unfold Sp.fuse; rw [if_neg (by simp [ho])]
    rw [e]
    clear e
    have HO := hid ho
    clear ho
    have HE : Hid (∀ l : Int, l = (n.toNat : Int) → HasD (w.setCell ⟨p, 3, none⟩ (.int .i64 l)) p gs vw { S with left := n.toNat } ∧ Fr w (w.setCell ⟨p, 3, none⟩ (.int .i64 l)) [p]) := by
      intro l hl
      subst hl
      have hf : Fr w (w.setCell ⟨p, 3, none⟩ (.int .i64 (n.toNat : Int))) [p] := (Fr.refl w [p]).setCell (p := ⟨p, 3, none⟩) (by simp) _
      exact ⟨h.put (o2 := S.on) hf (h.disk.set_ 3 _) (by omega) h.wf.less, hf⟩
    unfold dptr
    go_enter Try.func21, Try.ntmps21
    go_wp2_with fail
    all_goals (go_ret; exact ⟨rfl, HE.out _ (by omega)⟩)
theorem cut_any (p gs : Nat) (vw : Value) (S : Sp) (w : World) (h : HasD w p gs vw S) :
    Calls Try.prog 23 #[dptr p] w fun e w' => e = .returned (.int .i64 S.cut.2) ∧ HasD w' p gs vw S.cut.1 ∧ Fr w w' [p] := by
  have c2 := h.c2
  cases ho : S.on with
  | false =>
    rw [ho] at c2
    have e : S.cut = (S, 6) := by unfold Sp.cut; rw [if_pos ho]
    rw [e]
    clear e
    have HO := hid ho
    clear ho
    unfold dptr
    go_enter Try.func23, Try.ntmps23
    go_wp2_with fail
    go_ret
    exact ⟨rfl, h, Fr.refl _ _⟩
  | true =>
    rw [ho] at c2
    have e : S.cut = ({ S with on := false, left := 0 }, 0) := by unfold Sp.cut; rw [if_neg (by simp [ho])]
    rw [e]
    clear e
    have HO := hid ho
    clear ho
    unfold dptr
    go_enter Try.func23, Try.ntmps23
    go_wp2_with (go_at_call 52; refine (power_calls p gs vw S _ h).mono ?_; rintro e w1 ⟨rfl, h1, hf1⟩)
    go_ret
    exact ⟨rfl, h1, hf1⟩
/-! ### The questions -/
theorem on_any (p gs : Nat) (vw : Value) (S : Sp) (w : World) (h : HasD w p gs vw S) :
    Calls Try.prog 32 #[dptr p] w fun e w' => e = .returned (.bool S.on) ∧ w = w' := by
  have c2 := h.c2
  unfold dptr
  go_enter Try.func32, Try.ntmps32
  go_wp2
  go_ret
  exact ⟨by simp, rfl⟩
theorem steps_any (p gs : Nat) (vw : Value) (S : Sp) (w : World) (h : HasD w p gs vw S) :
    Calls Try.prog 31 #[dptr p] w fun e w' => e = .returned (.int .i64 (S.count : Int)) ∧ w = w' := by
  have c4 := h.c4
  unfold dptr
  go_enter Try.func31, Try.ntmps31
  go_wp2
  go_ret
  exact ⟨by simp, rfl⟩
theorem vw_shape {w : World} {B : Nat} {e : TypeId} {s : Nat} {v : Value} {n : Nat} {xs : List Value} (h : w.ownsRow B e s v n xs) : ∃ A c, v = .slice A n c := by
  rcases h.2 with ⟨rfl, rfl⟩ | ⟨g, cap, cur, rfl, _⟩
  · exact ⟨_, _, rfl⟩
  · exact ⟨_, _, rfl⟩
end Go.Proofs.Ytogchfpecbmocaa
