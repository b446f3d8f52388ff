/-
  The walks of package quorum.
-/
import Derived.Test.YtaaidfmphnflaaaQm
namespace Go.Proofs.Ytaaidfmphnflaaa
open Go.RowKit
set_option maxRecDepth 10000

theorem may_any (c : Int) (w : World) : Calls Try.prog 8 #[.int .i64 c] w fun e w' => e = .returned (.bool (mayQ c)) ∧ w = w' := by
  by_cases h3 : c = 3
  · subst h3
    go_enter Try.func8, Try.ntmps8
    go_wp2_with fail
    go_ret
    exact ⟨rfl, rfl⟩
  · have e3 : (c == 3) = false := by simpa using h3
    have e : mayQ c = (c == 5) := by unfold mayQ; rw [e3]; rfl
    rw [e]
    clear e h3
    go_enter Try.func8, Try.ntmps8
    go_wp2_with fail
    go_ret
    exact ⟨rfl, rfl⟩

theorem enough_any (c : Int) (w : World) : Calls Try.prog 9 #[.int .i64 c] w fun e w' => e = .returned (.int .i64 (enoughQ c)) ∧ w = w' := by
  have HM := hid (fun W => may_any c W)
  by_cases h3 : c = 3
  · subst h3
    go_enter Try.func9, Try.ntmps9
    go_wp2_with (go_at_call 8; refine (HM.out _).mono ?_; rintro x w1 ⟨rfl, rfl⟩)
    go_ret
    exact ⟨rfl, rfl⟩
  · by_cases h5 : c = 5
    · subst h5
      go_enter Try.func9, Try.ntmps9
      go_wp2_with (go_at_call 8; refine (HM.out _).mono ?_; rintro x w1 ⟨rfl, rfl⟩)
      go_ret
      exact ⟨rfl, rfl⟩
    · have e : mayQ c = false := by unfold mayQ; simp [h3, h5]
      have e2 : enoughQ c = 0 := by unfold enoughQ; simp [h3, h5]
      rw [e2]
      have HM2 : Hid (∀ W, Calls Try.prog 8 #[.int .i64 c] W fun e w' => e = .returned (.bool false) ∧ W = w') := hid fun W => by have := HM.out W; rw [e] at this; exact this
      clear e e2 HM h3 h5
      go_enter Try.func9, Try.ntmps9
      go_wp2_with (go_at_call 8; refine (HM2.out _).mono ?_; rintro x w1 ⟨rfl, rfl⟩)
      go_ret
      exact ⟨rfl, rfl⟩

theorem alone_any (k : Int) (w : World) : Calls Try.prog 19 #[.int .i64 k] w fun e w' => e = .returned (.int .i64 (worthQ k : Int)) ∧ w = w' := by
  by_cases h : 1 ≤ k ∧ k ≤ 5
  · have : k = 1 ∨ k = 2 ∨ k = 3 ∨ k = 4 ∨ k = 5 := by omega
    rcases this with rfl | rfl | rfl | rfl | rfl
    all_goals
      clear h
      go_enter Try.func19, Try.ntmps19
      go_wp2_with fail
      go_ret
      exact ⟨rfl, rfl⟩
  · have e : worthQ k = 0 := by unfold worthQ; rw [if_neg h]
    rw [e]
    clear e
    by_cases h1 : k < 1
    · clear h
      go_enter Try.func19, Try.ntmps19
      go_wp2_with fail
      go_ret
      exact ⟨rfl, rfl⟩
    · have h5 : 5 < k := by omega
      clear h
      go_enter Try.func19, Try.ntmps19
      go_wp2_with fail
      go_ret
      exact ⟨rfl, rfl⟩

theorem with_any (s k : Int) (w : World) : Calls Try.prog 13 #[.int .i64 s, .int .i64 k] w fun e w' => e = .returned (.int .i64 (withQ s k : Int)) ∧ w = w' := by
  have HM := hid (fun W => alone_any k W)
  have HE := hid (with_i64 s (worthQ k) (worthQ_lt k))
  have e : ((withQ s k : Nat) : Int) = ((bitsQ s ||| worthQ k : Nat) : Int) := rfl
  rw [e]
  clear e
  generalize worthQ k = x at HM HE ⊢
  generalize bitsQ s ||| x = y at HE ⊢
  go_enter Try.func13, Try.ntmps13
  go_wp2_with (go_at_call 19; refine (HM.out _).mono ?_; rintro x w1 ⟨rfl, rfl⟩)
  rw [HE.out]
  go_ret
  exact ⟨rfl, rfl⟩

theorem has_any (s k : Int) (w : World) : Calls Try.prog 15 #[.int .i64 s, .int .i64 k] w fun e w' => e = .returned (.bool (hasQ s k)) ∧ w = w' := by
  have HM := hid (fun W => alone_any k W)
  have HE := hid (and_i64 s (worthQ k) (worthQ_lt k))
  have e : hasQ s k = ((bitsQ s &&& worthQ k) != 0) := rfl
  rw [e]
  clear e
  generalize worthQ k = x at HM HE ⊢
  generalize bitsQ s &&& x = y at HE ⊢
  go_enter Try.func15, Try.ntmps15
  go_wp2_with (go_at_call 19; refine (HM.out _).mono ?_; rintro x w1 ⟨rfl, rfl⟩)
  rw [HE.out]
  go_ret
  exact ⟨by cases y <;> simp <;> omega, rfl⟩
