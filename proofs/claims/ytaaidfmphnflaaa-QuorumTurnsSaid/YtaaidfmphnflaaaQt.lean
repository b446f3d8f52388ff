/-
  The walks of QuorumTurns, QuorumMeets.
-/
import Derived.Test.YtaaidfmphnflaaaQl
namespace Go.Proofs.Ytaaidfmphnflaaa
open Go.RowKit
set_option maxRecDepth 10000

/-- those who lead the first k views behind one of the remainder r -/
def setT (c r : Nat) : Nat → Nat
  | 0 => 0
  | k + 1 => setT c r k ||| 2 ^ ((r + k) % c)
def turnB (c r k : Nat) : Bool := decide (setT c r k < 32) && !hasN (setT c r k) (2 ^ ((r + k) % c)) && decide (sizeN (setT c r c) = c) && decide (setT c r c < 32)
theorem turn3 : ∀ r : Fin 3, ∀ k : Fin 3, turnB 3 r k = true := by decide +kernel
theorem turn5 : ∀ r : Fin 5, ∀ k : Fin 5, turnB 5 r k = true := by decide +kernel
theorem turn_all {c r k : Nat} (hc : c = 3 ∨ c = 5) (hr : r < c) (hk : k < c) : turnB c r k = true := by
  rcases hc with rfl | rfl
  · exact turn3 ⟨r, hr⟩ ⟨k, hk⟩
  · exact turn5 ⟨r, hr⟩ ⟨k, hk⟩
theorem turn_step {c r k : Nat} {v : Int} (hc : c = 3 ∨ c = 5) (h0 : 0 ≤ v) (hr : (r : Int) = v % c) (hk : k < c) :
    primQ c (v + k) = (((r + k) % c : Nat) : Int) + 1 ∧ hasQ (setT c r k : Nat) (primQ c (v + k)) = false ∧ withQ (setT c r k : Nat) (primQ c (v + k)) = setT c r (k + 1) ∧ (r + k) % c < c := by
  have hm : mayQ (c : Int) = true := by rcases hc with rfl | rfl <;> rfl
  have hp : primQ c (v + k) = (((r + k) % c : Nat) : Int) + 1 := by
    unfold primQ
    rw [if_pos ⟨hm, by omega⟩]
    congr 1
    rw [Int.natCast_emod, Int.natCast_add, hr, Int.emod_add_emod]
  have hrc : r < c := by have : (r : Int) < c := by rw [hr]; exact Int.emod_lt_of_pos _ (by omega)
                         omega
  have ht := turn_all hc hrc hk
  unfold turnB at ht
  simp only [Bool.and_eq_true, decide_eq_true_eq, Bool.not_eq_true'] at ht
  obtain ⟨⟨⟨ht1, ht2⟩, _⟩, _⟩ := ht
  have hlt : (r + k) % c < c := Nat.mod_lt _ (by omega)
  have hw : worthQ (primQ c (v + k)) = 2 ^ ((r + k) % c) := by
    rw [hp]
    unfold worthQ
    rw [if_pos (by omega)]
    congr 1
    omega
  refine ⟨hp, ?_, ?_, hlt⟩
  · unfold hasQ
    rw [bitsQ_nat ht1, hw, ht2]
  · unfold withQ
    rw [bitsQ_nat ht1, hw]
    rfl
theorem turn_end {c r : Nat} (hc : c = 3 ∨ c = 5) (hr : r < c) : sizeQ (setT c r c : Nat) = c := by
  have ht := turn_all hc hr (k := 0) (by omega)
  unfold turnB at ht
  simp only [Bool.and_eq_true, decide_eq_true_eq, Bool.not_eq_true'] at ht
  unfold sizeQ
  rw [bitsQ_nat ht.2]
  exact ht.1.2

set_option maxHeartbeats 1000000 in
theorem turns_any (c v : Int) (w : World) (hv : -9223372036854775808 ≤ v ∧ v ≤ 9223372036854775807) : Calls Try.prog 6 #[.int .i64 c, .int .i64 v] w (Yes w) := by
  have HA := hid awake16_any
  have HM := hid (fun W => may_any c W)
  by_cases hm : mayQ c = true
  · rw [hm] at HM
    by_cases h0 : v < 0
    · clear hv hm
      go_enter Try.func6, Try.ntmps6
      go_wp2_with (first
        | (go_at_call 7; refine (HA.out _).mono ?_; rintro e w1 ⟨rfl, rfl⟩)
        | (go_at_call 8; refine (HM.out _).mono ?_; rintro e w1 ⟨rfl, rfl⟩))
      go_ret
      exact ⟨rfl, Below.refl _ _⟩
    · by_cases h60 : v > 1152921504606846976
      · clear hv hm
        go_enter Try.func6, Try.ntmps6
        go_wp2_with (first
          | (go_at_call 7; refine (HA.out _).mono ?_; rintro e w1 ⟨rfl, rfl⟩)
          | (go_at_call 8; refine (HM.out _).mono ?_; rintro e w1 ⟨rfl, rfl⟩))
        go_ret
        exact ⟨rfl, Below.refl _ _⟩
      · obtain ⟨n, hn, hn35⟩ : ∃ n : Nat, c = (n : Int) ∧ (n = 3 ∨ n = 5) := by
          have h35 : c = 3 ∨ c = 5 := by unfold mayQ at hm; simpa using hm
          exact ⟨c.toNat, by omega, by omega⟩
        subst hn
        obtain ⟨r, hr⟩ : ∃ r : Nat, (r : Int) = v % (n : Int) := ⟨(v % (n : Int)).toNat, by have := Int.emod_nonneg v (b := (n : Int)) (by omega); omega⟩
        have hrn : r < n := by have := Int.emod_lt_of_pos v (b := (n : Int)) (by omega); omega
        have HST := hid (fun k (hk : k < n) => turn_step (k := k) hn35 (by omega) hr hk)
        have HEND := hid (turn_end hn35 hrn)
        have HN := hid hn35
        have hn5 : n ≤ 5 := by omega
        clear hr hn35 hm hv
        have HSZ := hid (fun W => size_any (setT n r n : Nat) W)
        rw [HEND.out] at HSZ
        go_enter Try.func6, Try.ntmps6
        go_wp2_with (first
          | (go_at_call 7; refine (HA.out _).mono ?_; rintro e w1 ⟨rfl, rfl⟩)
          | (go_at_call 8; refine (HM.out _).mono ?_; rintro e w1 ⟨rfl, rfl⟩))
        go_loop [5, 6, 7] (fun s i _ => ∃ k : Nat, k ≤ n ∧ i = .int .i64 (k : Int) ∧ s = .int .i64 (setT n r k : Int)) (fun _ i _ => n - (intOf i).toNat)
        case atStart => exact ⟨0, by omega, rfl, rfl⟩
        case round =>
          obtain ⟨k, hk, rfl, rfl⟩ := hrel
          by_cases hlt : k < n
          · obtain ⟨hp, hh, hwi, hm5⟩ := HST.out k hlt
            have HP := hid (fun W => prim_any (n : Int) (v + k) (by omega) W)
            have HH := hid (fun W => has_any (setT n r k : Int) (primQ n (v + k)) W)
            have HW := hid (fun W => with_any (setT n r k : Int) (primQ n (v + k)) W)
            rw [hh] at HH
            rw [hwi] at HW
            rw [hp] at HP HH HW
            generalize (r + k) % n = q at hm5 HP HH HW
            generalize hs2 : setT n r (k + 1) = s2 at HW
            have HS2 := hid hs2
            generalize setT n r k = s1 at HH HW
            clear hs2 hp hh hwi HSZ HST HEND
            go_wp2_with (first
              | (go_at_call 11; refine (HP.out _).mono ?_; rintro e w1 ⟨rfl, rfl⟩)
              | (go_at_call 15; refine (HH.out _).mono ?_; rintro e w1 ⟨rfl, rfl⟩)
              | (go_at_call 13; refine (HW.out _).mono ?_; rintro e w1 ⟨rfl, rfl⟩))
            go_round
            case rel => exact ⟨k + 1, by omega, by go_num, by rw [HS2.out]⟩
            case measure => simp [intOf]; omega
          · obtain rfl : k = n := by omega
            go_wp2_with (go_at_call 17; refine (HSZ.out _).mono ?_; rintro e w1 ⟨rfl, rfl⟩)
            go_ret
            exact ⟨rfl, Below.refl _ _⟩
  · have hm2 : mayQ c = false := by simpa using hm
    rw [hm2] at HM
    clear hv hm hm2
    go_enter Try.func6, Try.ntmps6
    go_wp2_with (first
      | (go_at_call 7; refine (HA.out _).mono ?_; rintro e w1 ⟨rfl, rfl⟩)
      | (go_at_call 8; refine (HM.out _).mono ?_; rintro e w1 ⟨rfl, rfl⟩))
    go_ret
    exact ⟨rfl, Below.refl _ _⟩

/-- the first k replicas of a set -/
def lowN (m k : Nat) : Nat := m % 2 ^ k
theorem low_all : ∀ m : Fin 32, ∀ k : Fin 5, lowN m k < 32 ∧ lowN m (k + 1) = (if hasN m (2 ^ (k : Nat)) then lowN m k ||| 2 ^ (k : Nat) else lowN m k) := by decide +kernel
theorem meet_all : ∀ x : Fin 32, ∀ y : Fin 32, (x : Nat) < 8 → (y : Nat) < 8 → 2 ≤ sizeN x → 2 ≤ sizeN y → (hasN x 1 && hasN y 1 || hasN x 2 && hasN y 2 || hasN x 4 && hasN y 4) = true := by decide +kernel
theorem meet_all5 : ∀ x : Fin 32, ∀ y : Fin 32, 3 ≤ sizeN x → 3 ≤ sizeN y → (hasN x 1 && hasN y 1 || hasN x 2 && hasN y 2 || hasN x 4 && hasN y 4 || hasN x 8 && hasN y 8 || hasN x 16 && hasN y 16) = true := by decide +kernel
theorem worth_at {k : Nat} (h : k < 5) : worthQ ((k : Int) + 1) = 2 ^ k := by
  unfold worthQ
  rw [if_pos (by omega)]
  congr 1
  omega
theorem low_step (a : Int) {k : Nat} (h : k < 5) : ∃ b : Bool, hasQ a ((k : Int) + 1) = b ∧ (b = true → withQ (lowN (bitsQ a) k : Nat) ((k : Int) + 1) = lowN (bitsQ a) (k + 1)) ∧ (b = false → lowN (bitsQ a) k = lowN (bitsQ a) (k + 1)) := by
  have hl := low_all ⟨bitsQ a, bitsQ_lt a⟩ ⟨k, h⟩
  simp only at hl
  refine ⟨_, rfl, fun hb => ?_, fun hb => ?_⟩
  · unfold hasQ at hb
    rw [worth_at h] at hb
    unfold withQ
    rw [bitsQ_nat hl.1, worth_at h, hl.2, if_pos hb]
  · unfold hasQ at hb
    rw [worth_at h] at hb
    rw [hl.2, if_neg (by rw [hb]; simp)]
theorem low_lt (m k : Nat) (h : k ≤ 5) : lowN m k < 32 := by
  unfold lowN
  have h1 : m % 2 ^ k < 2 ^ k := Nat.mod_lt _ (Nat.pow_pos (by omega))
  have h2 : 2 ^ k ≤ 2 ^ 5 := Nat.pow_le_pow_right (by omega) h
  omega
theorem meet_end {n a b : Nat} (hn : n = 3 ∨ n = 5) (ha : enoughQ n ≤ (sizeQ (lowN a n : Nat) : Int)) (hb : enoughQ n ≤ (sizeQ (lowN b n : Nat) : Int))
    (h : ∀ j, j < n → (hasQ (lowN a n : Nat) ((j : Int) + 1) && hasQ (lowN b n : Nat) ((j : Int) + 1)) = false) : False := by
  have hx := low_lt a n (by omega)
  have hy := low_lt b n (by omega)
  unfold sizeQ at ha hb
  rw [bitsQ_nat hx] at ha
  rw [bitsQ_nat hy] at hb
  have h2 : ∀ j, j < n → (hasN (lowN a n) (2 ^ j) && hasN (lowN b n) (2 ^ j)) = false := fun j hj => by
    have := h j hj
    unfold hasQ at this
    rw [bitsQ_nat hx, bitsQ_nat hy, worth_at (by omega)] at this
    exact this
  rcases hn with rfl | rfl
  · rw [show enoughQ ((3 : Nat) : Int) = 2 from rfl] at ha hb
    have ha2 : 2 ≤ sizeN (lowN a 3) := by omega
    have hb2 : 2 ≤ sizeN (lowN b 3) := by omega
    have hm := meet_all ⟨lowN a 3, hx⟩ ⟨lowN b 3, hy⟩ (Nat.mod_lt _ (by omega)) (Nat.mod_lt _ (by omega)) ha2 hb2
    have h0 := h2 0 (by omega)
    have h1 := h2 1 (by omega)
    have h3 := h2 2 (by omega)
    simp only [Nat.reducePow] at h0 h1 h3
    simp only [h0, h1, h3] at hm
    exact absurd hm (by decide)
  · rw [show enoughQ ((5 : Nat) : Int) = 3 from rfl] at ha hb
    have ha2 : 3 ≤ sizeN (lowN a 5) := by omega
    have hb2 : 3 ≤ sizeN (lowN b 5) := by omega
    have hm := meet_all5 ⟨lowN a 5, hx⟩ ⟨lowN b 5, hy⟩ ha2 hb2
    have h0 := h2 0 (by omega)
    have h1 := h2 1 (by omega)
    have h3 := h2 2 (by omega)
    have h4 := h2 3 (by omega)
    have h5 := h2 4 (by omega)
    simp only [Nat.reducePow] at h0 h1 h3 h4 h5
    simp only [h0, h1, h3, h4, h5] at hm
    exact absurd hm (by decide)
