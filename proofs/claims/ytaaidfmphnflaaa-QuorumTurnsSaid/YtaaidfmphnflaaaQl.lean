/-
  The walks of QuorumCounts, QuorumSets.
-/
import Derived.Test.YtaaidfmphnflaaaQr
namespace Go.Proofs.Ytaaidfmphnflaaa
open Go.RowKit
set_option maxRecDepth 10000

theorem awake16_any (w : World) : Calls Try.prog 7 #[] w fun e w' => e = .returned (.bool true) ∧ w = w' := by
  have HE := hid (fun W => enough_any 5 W)
  have HP := hid (fun W => prim_any 3 4 (by omega) W)
  have HW := hid (fun W => with_any 1 3 W)
  have HS := hid (fun W => size_any 5 W)
  rw [show enoughQ 5 = 3 from rfl] at HE
  rw [show primQ 3 4 = 2 from rfl] at HP
  rw [show ((withQ 1 3 : Nat) : Int) = 5 from rfl] at HW
  rw [show ((sizeQ 5 : Nat) : Int) = 2 from rfl] at HS
  go_enter Try.func7, Try.ntmps7
  go_wp2_with (first
    | (go_at_call 9; refine (HE.out _).mono ?_; rintro e w1 ⟨rfl, rfl⟩)
    | (go_at_call 11; refine (HP.out _).mono ?_; rintro e w1 ⟨rfl, rfl⟩)
    | (go_at_call 13; refine (HW.out _).mono ?_; rintro e w1 ⟨rfl, rfl⟩)
    | (go_at_call 17; refine (HS.out _).mono ?_; rintro e w1 ⟨rfl, rfl⟩))
  go_ret
  exact ⟨rfl, rfl⟩

theorem counts_any (c v : Int) (w : World) (hv : -9223372036854775808 ≤ v ∧ v ≤ 9223372036854775807) : Calls Try.prog 3 #[.int .i64 c, .int .i64 v] w (Yes w) := by
  have HA := hid awake16_any
  have HE := hid (fun W => enough_any c W)
  have HR := hid (fun W => renough_any c W)
  have HP := hid (fun W => prim_any c v hv W)
  have HQ := hid (fun W => rprim_any c v hv W)
  have HM := hid (fun W => may_any c W)
  generalize enoughQ c = x at HE HR
  generalize primQ c v = y at HP HQ
  clear hv
  by_cases h3 : c = 3
  · subst h3
    rw [show mayQ 3 = true from rfl] at HM
    go_enter Try.func3, Try.ntmps3
    go_wp2_with (first
      | (go_at_call 7; refine (HA.out _).mono ?_; rintro e w1 ⟨rfl, rfl⟩)
      | (go_at_call 8; refine (HM.out _).mono ?_; rintro e w1 ⟨rfl, rfl⟩)
      | (go_at_call 9; refine (HE.out _).mono ?_; rintro e w1 ⟨rfl, rfl⟩)
      | (go_at_call 10; refine (HR.out _).mono ?_; rintro e w1 ⟨rfl, rfl⟩)
      | (go_at_call 11; refine (HP.out _).mono ?_; rintro e w1 ⟨rfl, rfl⟩)
      | (go_at_call 12; refine (HQ.out _).mono ?_; rintro e w1 ⟨rfl, rfl⟩))
    go_ret
    exact ⟨rfl, Below.refl _ _⟩
  · have e3 : (c == 3) = false := by simpa using h3
    rw [show mayQ c = (c == 5) by unfold mayQ; rw [e3]; rfl] at HM
    clear h3
    go_enter Try.func3, Try.ntmps3
    go_wp2_with (first
      | (go_at_call 7; refine (HA.out _).mono ?_; rintro e w1 ⟨rfl, rfl⟩)
      | (go_at_call 8; refine (HM.out _).mono ?_; rintro e w1 ⟨rfl, rfl⟩)
      | (go_at_call 9; refine (HE.out _).mono ?_; rintro e w1 ⟨rfl, rfl⟩)
      | (go_at_call 10; refine (HR.out _).mono ?_; rintro e w1 ⟨rfl, rfl⟩)
      | (go_at_call 11; refine (HP.out _).mono ?_; rintro e w1 ⟨rfl, rfl⟩)
      | (go_at_call 12; refine (HQ.out _).mono ?_; rintro e w1 ⟨rfl, rfl⟩))
    go_ret
    exact ⟨rfl, Below.refl _ _⟩

theorem two_of (s k : Int) : hasQ (withQ s k) k = (decide (1 ≤ k) && decide (k ≤ 5)) := by
  by_cases h : 1 ≤ k ∧ k ≤ 5
  · have e : worthQ k = 2 ^ (k - 1).toNat := by unfold worthQ; rw [if_pos h]
    have hall : ∀ m : Fin 32, ∀ k : Fin 5, hasN ((m : Nat) ||| 2 ^ (k : Nat)) (2 ^ (k : Nat)) = true := by decide +kernel
    have hlt : bitsQ s ||| worthQ k < 32 := Nat.or_lt_two_pow (n := 5) (bitsQ_lt s) (worthQ_lt k)
    have ha := hall ⟨bitsQ s, bitsQ_lt s⟩ ⟨(k - 1).toNat, by omega⟩
    simp only [← e] at ha
    unfold hasQ withQ
    rw [bitsQ_nat hlt, ha]
    simp [h.1, h.2]
  · have e : worthQ k = 0 := by unfold worthQ; rw [if_neg h]
    unfold hasQ
    rw [e]
    simp only [hasN, Nat.and_zero, bne_self_eq_false]
    simp; omega
set_option maxHeartbeats 1000000 in
theorem sets_any (s k : Int) (w : World) : Calls Try.prog 4 #[.int .i64 s, .int .i64 k] w (Yes w) := by
  have HA := hid awake16_any
  have HW := hid (fun W => with_any s k W)
  have HV := hid (fun W => rwith_any s k W)
  have HH := hid (fun W => has_any s k W)
  have HG := hid (fun W => rhas_any s k W)
  have HS := hid (fun W => size_any s W)
  have HR := hid (fun W => rsize_any s W)
  have H2 := hid (fun W => has_any (withQ s k : Int) k W)
  rw [two_of s k] at H2
  generalize withQ s k = x at HW HV H2
  generalize hasQ s k = b at HH HG
  generalize sizeQ s = y at HS HR
  have hbe := Below.refl w.heap.size w
  have fin : ∀ r : Bool, r = true → ∀ W, Below w.heap.size w W → Yes w (.returned (.bool r)) W := fun r h W hb => by subst h; exact ⟨rfl, hb⟩
  have FIN := hid fin
  clear fin
  by_cases h1 : 1 ≤ k
  · by_cases h5 : k ≤ 5
    · rw [show (decide (1 ≤ k) && decide (k ≤ 5)) = true by simp [h1, h5]] at H2
      go_enter Try.func4, Try.ntmps4
      go_wp2_with (first
        | (go_at_call 7; refine (HA.out _).mono ?_; rintro e w1 ⟨rfl, rfl⟩)
        | (go_at_call 13; refine (HW.out _).mono ?_; rintro e w1 ⟨rfl, rfl⟩)
        | (go_at_call 14; refine (HV.out _).mono ?_; rintro e w1 ⟨rfl, hb1⟩; replace hbe := hbe.trans (hb1.mono hbe.size); clear hb1)
        | (go_at_call_of 15 (Value.int IntKind.i64 s); refine (HH.out _).mono ?_; rintro e w1 ⟨rfl, rfl⟩)
        | (go_at_call 16; refine (HG.out _).mono ?_; rintro e w1 ⟨rfl, hb1⟩; replace hbe := hbe.trans (hb1.mono hbe.size); clear hb1)
        | (go_at_call 17; refine (HS.out _).mono ?_; rintro e w1 ⟨rfl, rfl⟩)
        | (go_at_call 18; refine (HR.out _).mono ?_; rintro e w1 ⟨rfl, hb1⟩; replace hbe := hbe.trans (hb1.mono hbe.size); clear hb1)
        | (go_at_call_of 15 (Value.int IntKind.i64 (x : Int)); refine (H2.out _).mono ?_; rintro e w1 ⟨rfl, rfl⟩))
      go_ret
      exact FIN.out _ (by first | rfl | (simp; done) | (simp; omega)) _ hbe
    · rw [show (decide (1 ≤ k) && decide (k ≤ 5)) = false by simp [h5]] at H2
      go_enter Try.func4, Try.ntmps4
      go_wp2_with (first
        | (go_at_call 7; refine (HA.out _).mono ?_; rintro e w1 ⟨rfl, rfl⟩)
        | (go_at_call 13; refine (HW.out _).mono ?_; rintro e w1 ⟨rfl, rfl⟩)
        | (go_at_call 14; refine (HV.out _).mono ?_; rintro e w1 ⟨rfl, hb1⟩; replace hbe := hbe.trans (hb1.mono hbe.size); clear hb1)
        | (go_at_call_of 15 (Value.int IntKind.i64 s); refine (HH.out _).mono ?_; rintro e w1 ⟨rfl, rfl⟩)
        | (go_at_call 16; refine (HG.out _).mono ?_; rintro e w1 ⟨rfl, hb1⟩; replace hbe := hbe.trans (hb1.mono hbe.size); clear hb1)
        | (go_at_call 17; refine (HS.out _).mono ?_; rintro e w1 ⟨rfl, rfl⟩)
        | (go_at_call 18; refine (HR.out _).mono ?_; rintro e w1 ⟨rfl, hb1⟩; replace hbe := hbe.trans (hb1.mono hbe.size); clear hb1)
        | (go_at_call_of 15 (Value.int IntKind.i64 (x : Int)); refine (H2.out _).mono ?_; rintro e w1 ⟨rfl, rfl⟩))
      go_ret
      exact FIN.out _ (by first | rfl | (simp; done) | (simp; omega)) _ hbe
  · rw [show (decide (1 ≤ k) && decide (k ≤ 5)) = false by simp [h1]] at H2
    go_enter Try.func4, Try.ntmps4
    go_wp2_with (first
      | (go_at_call 7; refine (HA.out _).mono ?_; rintro e w1 ⟨rfl, rfl⟩)
      | (go_at_call 13; refine (HW.out _).mono ?_; rintro e w1 ⟨rfl, rfl⟩)
      | (go_at_call 14; refine (HV.out _).mono ?_; rintro e w1 ⟨rfl, hb1⟩; replace hbe := hbe.trans (hb1.mono hbe.size); clear hb1)
      | (go_at_call_of 15 (Value.int IntKind.i64 s); refine (HH.out _).mono ?_; rintro e w1 ⟨rfl, rfl⟩)
      | (go_at_call 16; refine (HG.out _).mono ?_; rintro e w1 ⟨rfl, hb1⟩; replace hbe := hbe.trans (hb1.mono hbe.size); clear hb1)
      | (go_at_call 17; refine (HS.out _).mono ?_; rintro e w1 ⟨rfl, rfl⟩)
      | (go_at_call 18; refine (HR.out _).mono ?_; rintro e w1 ⟨rfl, hb1⟩; replace hbe := hbe.trans (hb1.mono hbe.size); clear hb1)
      | (go_at_call_of 15 (Value.int IntKind.i64 (x : Int)); refine (H2.out _).mono ?_; rintro e w1 ⟨rfl, rfl⟩))
    go_ret
    exact FIN.out _ (by first | rfl | (simp; done) | (simp; omega)) _ hbe
