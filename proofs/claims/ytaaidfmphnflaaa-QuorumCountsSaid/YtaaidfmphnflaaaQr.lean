/-
  The walks of the document's answers of chapter 16.
-/
import Derived.Test.YtaaidfmphnflaaaQd
namespace Go.Proofs.Ytaaidfmphnflaaa
open Go.RowKit
set_option maxRecDepth 10000

/-- a number, and what was there is as it was -/
def NE (w : World) (n : Int) (e : Ending) (w' : World) : Prop := e = .returned (.int .i64 n) ∧ Below w.heap.size w w'
def TE (w : World) (b : Bool) (e : Ending) (w' : World) : Prop := e = .returned (.bool b) ∧ Below w.heap.size w w'

theorem renough_any (c : Int) (w : World) : Calls Try.prog 10 #[.int .i64 c] w fun e w' => e = .returned (.int .i64 (enoughQ c)) ∧ w = w' := by
  by_cases h3 : c = 3
  · subst h3
    go_enter Try.func10, Try.ntmps10
    go_wp2_with fail
    go_ret
    exact ⟨rfl, rfl⟩
  · by_cases h5 : c = 5
    · subst h5
      go_enter Try.func10, Try.ntmps10
      go_wp2_with fail
      go_ret
      exact ⟨rfl, rfl⟩
    · have e2 : enoughQ c = 0 := by unfold enoughQ; simp [h3, h5]
      rw [e2]
      clear e2
      go_enter Try.func10, Try.ntmps10
      go_wp2_with fail
      go_ret
      exact ⟨rfl, rfl⟩

theorem rprim_any (c v : Int) (hv : -9223372036854775808 ≤ v ∧ v ≤ 9223372036854775807) (w : World) : Calls Try.prog 12 #[.int .i64 c, .int .i64 v] w fun e w' => e = .returned (.int .i64 (primQ c v)) ∧ w = w' := by
  have HM := hid (fun W => renough_any c W)
  have HN : Hid (mayQ c = true → ∃ n : Int, enoughQ c = n ∧ (n == 0) = false ∧ n ≠ 0) := hid fun hm => by
    have h35 : c = 3 ∨ c = 5 := by unfold mayQ at hm; simpa using hm
    rcases h35 with rfl | rfl
    · exact ⟨2, rfl, rfl, by omega⟩
    · exact ⟨3, rfl, rfl, by omega⟩
  by_cases hm : mayQ c = true
  · obtain ⟨n, hn, hn0, hn1⟩ := HN.out hm
    rw [hn] at HM
    clear HN hn
    have h35 : c = 3 ∨ c = 5 := by unfold mayQ at hm; simpa using hm
    by_cases h0 : 0 ≤ v
    · have e : primQ c v = v % c + 1 := by unfold primQ; rw [if_pos ⟨hm, h0⟩]
      rw [e]
      have ht : v.tmod c = v % c := Int.tmod_eq_emod_of_nonneg h0
      have hlt : ¬ v < 0 := by omega
      have hw : wrap64 (1 + v % c) = v % c + 1 := by rw [Int.add_comm]; exact IntWalk.wrap64_in _ (by rcases h35 with rfl | rfl <;> constructor <;> omega)
      clear e hm ht hw h0
      rcases h35 with rfl | rfl
      all_goals
        go_enter Try.func12, Try.ntmps12
        go_wp2_with (go_at_call 10; refine (HM.out _).mono ?_; rintro x w1 ⟨rfl, rfl⟩)
        go_ret
        exact ⟨by rw [Int.add_comm (v % _) 1]; rfl, rfl⟩
    · have e : primQ c v = 0 := by unfold primQ; rw [if_neg (fun h => h0 h.2)]
      have hlt : v < 0 := by omega
      rw [e]
      clear e hm h0
      rcases h35 with rfl | rfl
      all_goals
        go_enter Try.func12, Try.ntmps12
        go_wp2_with (go_at_call 10; refine (HM.out _).mono ?_; rintro x w1 ⟨rfl, rfl⟩)
        go_ret
        exact ⟨rfl, rfl⟩
  · clear HN
    have e : primQ c v = 0 := by unfold primQ; rw [if_neg (fun h => hm h.1)]
    have h35 : ¬ c = 3 ∧ ¬ c = 5 := by unfold mayQ at hm; simpa using hm
    have e2 : enoughQ c = 0 := by unfold enoughQ; rw [if_neg h35.1, if_neg h35.2]
    rw [e]
    rw [e2] at HM
    clear e hm h35 e2
    go_enter Try.func12, Try.ntmps12
    go_wp2_with (go_at_call 10; refine (HM.out _).mono ?_; rintro x w1 ⟨rfl, rfl⟩)
    go_ret
    exact ⟨rfl, rfl⟩

theorem worth_any (k : Int) (w : World) : Calls Try.prog 21 #[.int .i64 k] w (NE w (worthQ k)) := by
  by_cases h : 1 ≤ k ∧ k ≤ 5
  · have : k = 1 ∨ k = 2 ∨ k = 3 ∨ k = 4 ∨ k = 5 := by omega
    rcases this with rfl | rfl | rfl | rfl | rfl
    all_goals
      clear h
      go_enter Try.func21, Try.ntmps21
      go_wp2_with fail
      go_ret
      exact ⟨rfl, (Below.refl _ _).alloc (Nat.le_refl _) _⟩
  · have e : worthQ k = 0 := by unfold worthQ; rw [if_neg h]
    rw [e]
    clear e
    by_cases h1 : k < 1
    · clear h
      go_enter Try.func21, Try.ntmps21
      go_wp2_with fail
      go_ret
      exact ⟨rfl, (Below.refl _ _).alloc (Nat.le_refl _) _⟩
    · have h5 : 5 < k := by omega
      clear h
      go_enter Try.func21, Try.ntmps21
      go_wp2_with fail
      go_ret
      exact ⟨rfl, (Below.refl _ _).alloc (Nat.le_refl _) _⟩

theorem rbits_any (s : Int) (w : World) : Calls Try.prog 20 #[.int .i64 s] w fun e w' => e = .returned (.int .i64 (bitsQ s : Int)) ∧ w = w' := by
  have HE := hid (tmod32 s)
  have hb := bitsQ_lt s
  by_cases hneg : s.tmod 32 < 0
  · have e : s.tmod 32 + 32 = (bitsQ s : Int) := by have h := HE.out; rw [if_pos hneg] at h; exact h
    have HT := hid e
    generalize bitsQ s = y at HT hb ⊢
    have HY : Hid (wrap64 (y : Int) = y) := hid (IntWalk.wrap64_in _ ⟨by omega, by omega⟩)
    clear e HE
    go_enter Try.func20, Try.ntmps20
    go_wp2_with fail
    rw [HT.out]
    go_ret
    exact ⟨by rw [HY.out]; rfl, rfl⟩
  · have e : s.tmod 32 = (bitsQ s : Int) := by have h := HE.out; rw [if_neg hneg] at h; exact h
    have HT := hid e
    generalize bitsQ s = y at HT hb ⊢
    clear e HE
    go_enter Try.func20, Try.ntmps20
    go_wp2_with fail
    go_ret
    exact ⟨by rw [HT.out]; rfl, rfl⟩

/-- has, by remainders -/
theorem has_all : ∀ m : Fin 32, ∀ k : Fin 5, ((wrap64 (((m : Nat) : Int) / ((2 ^ (k : Nat) : Nat) : Int))).tmod 2 == 1) = hasN m (2 ^ (k : Nat)) := by decide +kernel
theorem rhas_any (s k : Int) (w : World) : Calls Try.prog 16 #[.int .i64 s, .int .i64 k] w (TE w (hasQ s k)) := by
  have HB := hid (fun W => rbits_any s W)
  have HW := hid (fun W => worth_any k W)
  have hb := bitsQ_lt s
  by_cases h : 1 ≤ k ∧ k ≤ 5
  · have e : worthQ k = 2 ^ (k - 1).toNat := by unfold worthQ; rw [if_pos h]
    have ha := has_all ⟨bitsQ s, hb⟩ ⟨(k - 1).toNat, by omega⟩
    unfold hasQ
    simp only [← e] at ha
    have hw0 : 0 < worthQ k := by rw [e]; exact Nat.pow_pos (by omega)
    generalize worthQ k = x at HW ha hw0 ⊢
    generalize bitsQ s = m at HB ha hb ⊢
    generalize hasN m x = b at ha ⊢
    have hxi : (x : Int) > 0 := by omega
    have hx0 : (x : Int) ≠ 0 := by omega
    have HA := hid ha
    clear ha e h
    have hbe := Below.refl w.heap.size w
    go_enter Try.func16, Try.ntmps16
    go_wp2_with (first
      | (go_at_call 21; refine (HW.out _).mono ?_; rintro e w1 ⟨rfl, hb1⟩)
      | (go_at_call 20; refine (HB.out _).mono ?_; rintro e w2 ⟨rfl, rfl⟩))
    go_ret
    refine ⟨?_, hb1⟩
    rw [HA.out]
    rfl
  · have e : hasQ s k = false := by unfold hasQ worthQ hasN; rw [if_neg h]; simp
    rw [e]
    have e2 : worthQ k = 0 := by unfold worthQ; rw [if_neg h]
    rw [e2] at HW
    clear e e2
    go_enter Try.func16, Try.ntmps16
    go_wp2_with (first
      | (go_at_call 21; refine (HW.out _).mono ?_; rintro x w1 ⟨rfl, hb1⟩))
    go_ret
    exact ⟨rfl, hb1⟩

theorem with_yes : ∀ m : Fin 32, ∀ k : Fin 32, hasN m k = true → (k : Nat) = 1 ∨ (k : Nat) = 2 ∨ (k : Nat) = 4 ∨ (k : Nat) = 8 ∨ (k : Nat) = 16 → (m : Nat) ||| (k : Nat) = m := by decide +kernel
theorem with_no : ∀ m : Fin 32, ∀ k : Fin 32, hasN m k = false → (m : Nat) ||| (k : Nat) = m + k := by decide +kernel
theorem rwith_any (s k : Int) (w : World) : Calls Try.prog 14 #[.int .i64 s, .int .i64 k] w (NE w (withQ s k)) := by
  have HB := hid (fun W => rbits_any s W)
  have HW := hid (fun W => worth_any k W)
  have HH := hid (fun W => rhas_any s k W)
  have hb := bitsQ_lt s
  have hx := worthQ_lt k
  have hc := worthQ_cases k
  have ey := with_yes ⟨bitsQ s, hb⟩ ⟨worthQ k, hx⟩
  have en := with_no ⟨bitsQ s, hb⟩ ⟨worthQ k, hx⟩
  have ew : withQ s k = bitsQ s ||| worthQ k := rfl
  have eh : hasQ s k = hasN (bitsQ s) (worthQ k) := rfl
  rw [ew]
  rw [eh] at HH
  simp only at ey en
  have hbe := Below.refl w.heap.size w
  by_cases hh : hasN (bitsQ s) (worthQ k) = true
  · rw [hh] at HH
    have e : bitsQ s ||| worthQ k = bitsQ s := by
      rcases hc with h | h
      · rw [h]; simp
      · exact ey hh h
    rw [e]
    clear ey en ew eh hc hh e
    generalize bitsQ s = m at HB hb ⊢
    go_enter Try.func14, Try.ntmps14
    go_wp2_with (first
      | (go_at_call 16; refine (HH.out _).mono ?_; rintro e w1 ⟨rfl, hb1⟩)
      | (go_at_call 20; refine (HB.out _).mono ?_; rintro e w2 ⟨rfl, rfl⟩))
    go_ret
    exact ⟨rfl, hb1⟩
  · have hh2 : hasN (bitsQ s) (worthQ k) = false := by simpa using hh
    rw [hh2] at HH
    rw [en hh2]
    clear ey en ew eh hc hh hh2
    generalize bitsQ s = m at HB hb ⊢
    generalize worthQ k = x at HW hx ⊢
    go_enter Try.func14, Try.ntmps14
    go_wp2_with (first
      | (go_at_call 16; refine (HH.out _).mono ?_; rintro e w1 ⟨rfl, hb1⟩)
      | (go_at_call 20; refine (HB.out _).mono ?_; rintro e w2 ⟨rfl, rfl⟩)
      | (go_at_call 21; refine (HW.out _).mono ?_; rintro e w3 ⟨rfl, hb3⟩))
    go_ret
    exact ⟨rfl, hb1.trans (hb3.mono hb1.size)⟩

/-- how many of the first k replicas a set has -/
def cntQ (s : Int) : Nat → Nat
  | 0 => 0
  | k + 1 => cntQ s k + (if hasQ s ((k : Int) + 1) then 1 else 0)
theorem cntQ_le (s : Int) (k : Nat) : cntQ s k ≤ k := by
  induction k with
  | zero => exact Nat.le_refl _
  | succ k ih => unfold cntQ; split <;> omega
theorem cnt_all : ∀ m : Fin 32, (if hasN m 1 then 1 else 0) + (if hasN m 2 then 1 else 0) + (if hasN m 4 then 1 else 0) + (if hasN m 8 then 1 else 0) + (if hasN m 16 then 1 else 0) = sizeN m := by decide +kernel
theorem cnt_five (s : Int) : cntQ s 5 = sizeQ s := by
  have h := cnt_all ⟨bitsQ s, bitsQ_lt s⟩
  unfold sizeQ
  rw [← h]
  simp only [cntQ, hasQ, Nat.zero_add]
  rfl
theorem rsize_any (s : Int) (w : World) : Calls Try.prog 18 #[.int .i64 s] w (NE w (sizeQ s)) := by
  have HH := hid (fun k W => rhas_any s k W)
  rw [← cnt_five s]
  have hbe := Below.refl w.heap.size w
  go_enter Try.func18, Try.ntmps18
  go_wp2_with fail
  go_loopw [3, 4] (fun n i wr => ∃ k : Nat, k ≤ 5 ∧ n = .int .i64 (cntQ s k : Int) ∧ i = .int .i64 ((k : Int) + 1) ∧ Below w.heap.size w wr) (fun _ i _ => 6 - (intOf i).toNat)
  case atStart => exact ⟨0, by omega, rfl, rfl, hbe⟩
  case round =>
    obtain ⟨k, hk, rfl, rfl, hbw⟩ := hrel
    have hcl := cntQ_le s k
    by_cases h5 : k < 5
    · have HK := HH.out ((k : Int) + 1)
      have HKK := hid HK
      have e : cntQ s (k + 1) = cntQ s k + (if hasQ s ((k : Int) + 1) then 1 else 0) := rfl
      by_cases hh : hasQ s ((k : Int) + 1) = true
      · rw [hh] at HKK e
        have HE := hid e
        clear HK e hh HH
        generalize cntQ s k = y at HE hcl ⊢
        go_wp2_with (go_at_call 16; refine (HKK.out _).mono ?_; rintro e w1 ⟨rfl, hb1⟩)
        go_round
        case rel => exact ⟨k + 1, by omega, by rw [HE.out]; go_num, by go_num, hbw.trans (hb1.mono hbw.size)⟩
        case measure => simp [intOf]; omega
      · have hf : hasQ s ((k : Int) + 1) = false := by simpa using hh
        rw [hf] at HKK e
        have HE := hid e
        clear HK e hh HH hf
        generalize cntQ s k = y at HE hcl ⊢
        go_wp2_with (go_at_call 16; refine (HKK.out _).mono ?_; rintro e w1 ⟨rfl, hb1⟩)
        go_round
        case rel => exact ⟨k + 1, by omega, by rw [HE.out]; rfl, by go_num, hbw.trans (hb1.mono hbw.size)⟩
        case measure => simp [intOf]; omega
    · obtain rfl : k = 5 := by omega
      clear HH
      generalize he : cntQ s 5 = y at hcl ⊢
      have HE := hid he
      clear he
      go_wp2_with fail
      go_ret
      exact ⟨by rw [HE.out]; rfl, hbw⟩
