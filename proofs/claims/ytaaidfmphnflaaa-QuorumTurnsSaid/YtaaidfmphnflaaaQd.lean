/-
  The walks of package quorum: Primary, Size.
-/
import Derived.Test.YtaaidfmphnflaaaQc
namespace Go.Proofs.Ytaaidfmphnflaaa
open Go.RowKit
set_option maxRecDepth 10000

theorem prim_any (c v : Int) (hv : -9223372036854775808 ≤ v ∧ v ≤ 9223372036854775807) (w : World) : Calls Try.prog 11 #[.int .i64 c, .int .i64 v] w fun e w' => e = .returned (.int .i64 (primQ c v)) ∧ w = w' := by
  have HM := hid (fun W => may_any c W)
  by_cases hm : mayQ c = true
  · by_cases h0 : 0 ≤ v
    · have h35 : c = 3 ∨ c = 5 := by unfold mayQ at hm; simpa using hm
      have e : primQ c v = v % c + 1 := by unfold primQ; rw [if_pos ⟨hm, h0⟩]
      rw [e]
      have ht : v.tmod c = v % c := Int.tmod_eq_emod_of_nonneg h0
      have hlt : ¬ v < 0 := by omega
      have hw : wrap64 (v % c + 1) = v % c + 1 := IntWalk.wrap64_in _ (by rcases h35 with rfl | rfl <;> constructor <;> omega)
      have hw2 : wrap64 (v % c) = v % c := IntWalk.wrap64_in _ (by rcases h35 with rfl | rfl <;> constructor <;> omega)
      have HT := hid ht
      have HW := hid hw
      have HW2 := hid hw2
      rw [hm] at HM
      clear e hm ht hw hw2 h0
      rcases h35 with rfl | rfl
      all_goals
        go_enter Try.func11, Try.ntmps11
        go_wp2_with (go_at_call 8; refine (HM.out _).mono ?_; rintro x w1 ⟨rfl, rfl⟩)
        go_ret
        exact ⟨by first | rfl | (rw [HT.out]) | (rw [HT.out, HW.out]), rfl⟩
    · have e : primQ c v = 0 := by unfold primQ; rw [if_neg (fun h => h0 h.2)]
      have hlt : v < 0 := by omega
      rw [e]
      rw [hm] at HM
      clear e hm h0
      go_enter Try.func11, Try.ntmps11
      go_wp2_with (go_at_call 8; refine (HM.out _).mono ?_; rintro x w1 ⟨rfl, rfl⟩)
      go_ret
      exact ⟨rfl, rfl⟩
  · have e : primQ c v = 0 := by unfold primQ; rw [if_neg (fun h => hm h.1)]
    have hm2 : mayQ c = false := by simpa using hm
    rw [e]
    rw [hm2] at HM
    clear e hm hm2
    go_enter Try.func11, Try.ntmps11
    go_wp2_with (go_at_call 8; refine (HM.out _).mono ?_; rintro x w1 ⟨rfl, rfl⟩)
    go_ret
    exact ⟨rfl, rfl⟩

def o1 (n : Int) : Int := IntKind.u64.wrap (bits .and .u64 (n / 2) 6148914691236517205 + bits .and .u64 n 6148914691236517205)
def o2 (n : Int) : Int := IntKind.u64.wrap (bits .and .u64 (n / 4) 3689348814741910323 + bits .and .u64 n 3689348814741910323)
def o3 (n : Int) : Int := bits .and .u64 (IntKind.u64.wrap (n / 16 + n)) 1085102592571150095
def o4 (n : Int) : Int := IntKind.u64.wrap (n + n / 256)
def o5 (n : Int) : Int := IntKind.u64.wrap (n + n / 65536)
def o6 (n : Int) : Int := IntKind.u64.wrap (n + n / 4294967296)
def o7 (n : Int) : Int := bits .and .i64 (wrap64 n) 127
theorem ones_all : ∀ m : Fin 32, o7 (o6 (o5 (o4 (o3 (o2 (o1 ((m : Nat) : Int))))))) = ((sizeN m : Nat) : Int) := by decide +kernel

theorem ones64_any (m : Nat) (h : m < 32) (w : World) : Calls Try.prog 24 #[.int .u64 (m : Int)] w fun e w' => e = .returned (.int .i64 (sizeN m : Int)) ∧ w = w' := by
  have HE := hid (ones_all ⟨m, h⟩)
  go_enter Try.func24, Try.ntmps24
  go_wp2_with fail
  go_ret
  refine ⟨?_, rfl⟩
  show Ending.returned (.int .i64 (o7 (o6 (o5 (o4 (o3 (o2 (o1 ((m : Nat) : Int))))))))) = _
  rw [HE.out]

theorem ones_any (m : Nat) (h : m < 32) (w : World) : Calls Try.prog 22 #[.int .u64 (m : Int)] w fun e w' => e = .returned (.int .i64 (sizeN m : Int)) ∧ w = w' := by
  have HO := hid (fun W => ones64_any m h W)
  generalize sizeN m = y at HO ⊢
  go_enter Try.func22, Try.ntmps22
  go_wp2_with (go_at_call 24; refine (HO.out _).mono ?_; rintro x w1 ⟨rfl, rfl⟩)
  go_ret
  exact ⟨rfl, rfl⟩

theorem size_any (s : Int) (w : World) : Calls Try.prog 17 #[.int .i64 s] w fun e w' => e = .returned (.int .i64 (sizeQ s : Int)) ∧ w = w' := by
  have HO := hid (fun W => ones_any (bitsQ s) (bitsQ_lt s) W)
  have HE := hid (and_31 s)
  have hb := bitsQ_lt s
  have HW : Hid (IntKind.u64.wrap (bits .and .i64 s 31) = (bitsQ s : Int)) := hid (by
    rw [and_31]
    simp [IntKind.wrap, IntKind.bits, IntKind.signed]; omega)
  show Calls _ _ _ _ fun e w' => e = .returned (.int .i64 (sizeN (bitsQ s) : Int)) ∧ w = w'
  generalize sizeN (bitsQ s) = y at HO ⊢
  generalize bitsQ s = m at HO HE HW hb ⊢
  go_enter Try.func17, Try.ntmps17
  go_wp2_with (go_at_call 22; rw [HW.out]; refine (HO.out _).mono ?_; rintro x w1 ⟨rfl, rfl⟩)
  go_ret
  exact ⟨rfl, rfl⟩
