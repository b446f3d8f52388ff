/-
  The walk of QuorumMeets.
-/
import Derived.Test.YtaaidfmphnflaaaQt
namespace Go.Proofs.Ytaaidfmphnflaaa
open Go.RowKit
set_option maxRecDepth 10000

set_option maxHeartbeats 2000000 in
theorem meets_any (c a b : Int) (w : World) : Calls Try.prog 5 #[.int .i64 c, .int .i64 a, .int .i64 b] w (Yes w) := by
  have HA := hid awake16_any
  have HM := hid (fun W => may_any c W)
  have HE := hid (fun W => enough_any c W)
  by_cases hm : mayQ c = true
  · clear HM
    obtain ⟨n, hn, hn35⟩ : ∃ n : Nat, c = (n : Int) ∧ (n = 3 ∨ n = 5) := by
      have h35 : c = 3 ∨ c = 5 := by unfold mayQ at hm; simpa using hm
      exact ⟨c.toNat, by omega, by omega⟩
    subst hn
    have HEND := hid (fun h1 h2 h3 => meet_end (a := bitsQ a) (b := bitsQ b) hn35 h1 h2 h3)
    obtain ⟨m, hmm, hm0, hm1⟩ : ∃ m : Int, enoughQ (n : Int) = m ∧ (m == 0) = false ∧ m ≠ 0 := by
      rcases hn35 with rfl | rfl
      · exact ⟨2, rfl, rfl, by omega⟩
      · exact ⟨3, rfl, rfl, by omega⟩
    rw [hmm] at HE HEND
    have hn5 : n ≤ 5 := by omega
    have HLA := hid (fun k (hk : k < 5) => low_step a hk)
    have HLB := hid (fun k (hk : k < 5) => low_step b hk)
    have HHA := hid (fun k W => has_any a k W)
    have HHB := hid (fun k W => has_any b k W)
    clear hm hmm hn35
    go_enter Try.func5, Try.ntmps5
    go_wp2_with (first
      | (go_at_call 7; refine (HA.out _).mono ?_; rintro e w1 ⟨rfl, rfl⟩)
      | (go_at_call 9; refine (HE.out _).mono ?_; rintro e w1 ⟨rfl, rfl⟩))
    go_loop [8, 9, 10] (fun x y i => ∃ k : Nat, k ≤ n ∧ i = .int .i64 ((k : Int) + 1) ∧ x = .int .i64 (lowN (bitsQ a) k : Int) ∧ y = .int .i64 (lowN (bitsQ b) k : Int)) (fun _ _ i => n + 1 - (intOf i).toNat)
    case atStart => exact ⟨0, by omega, rfl, by simp [lowN, Nat.mod_one], by simp [lowN, Nat.mod_one]⟩
    case round =>
      obtain ⟨k, hk, rfl, rfl, rfl⟩ := hrel
      by_cases hlt : k < n
      · have hk5 : k < 5 := by omega
        obtain ⟨ba, hqa, hya, hna⟩ := HLA.out k hk5
        obtain ⟨bb, hqb, hyb, hnb⟩ := HLB.out k hk5
        have HQA := hid (fun W => HHA.out ((k : Int) + 1) W)
        have HQB := hid (fun W => HHB.out ((k : Int) + 1) W)
        rw [hqa] at HQA
        rw [hqb] at HQB
        have HWA := hid (fun W => with_any (lowN (bitsQ a) k : Int) ((k : Int) + 1) W)
        have HWB := hid (fun W => with_any (lowN (bitsQ b) k : Int) ((k : Int) + 1) W)
        generalize hs2 : lowN (bitsQ a) (k + 1) = x2 at hya hna
        generalize ht2 : lowN (bitsQ b) (k + 1) = y2 at hyb hnb
        have HS2 := hid hs2
        have HT2 := hid ht2
        generalize lowN (bitsQ a) k = x1 at HWA hya hna
        generalize lowN (bitsQ b) k = y1 at HWB hyb hnb
        clear hs2 ht2 hqa hqb HEND HLA HLB HHA HHB HA HE
        cases ba
        · obtain rfl := hna rfl
          clear hya hna HWA
          cases bb
          · obtain rfl := hnb rfl
            clear hyb hnb HWB
            go_wp2_with (first
              | (go_at_call_of 15 (Value.int IntKind.i64 a); refine (HQA.out _).mono ?_; rintro e w1 ⟨rfl, rfl⟩)
              | (go_at_call_of 15 (Value.int IntKind.i64 b); refine (HQB.out _).mono ?_; rintro e w1 ⟨rfl, rfl⟩))
            go_round
            case rel => exact ⟨k + 1, by omega, by go_num, by rw [HS2.out], by rw [HT2.out]⟩
            case measure => simp [intOf]; omega
          · rw [hyb rfl] at HWB
            clear hyb hnb
            go_wp2_with (first
              | (go_at_call_of 15 (Value.int IntKind.i64 a); refine (HQA.out _).mono ?_; rintro e w1 ⟨rfl, rfl⟩)
              | (go_at_call_of 15 (Value.int IntKind.i64 b); refine (HQB.out _).mono ?_; rintro e w1 ⟨rfl, rfl⟩)
              | (go_at_call_of 13 (Value.int IntKind.i64 (y1 : Int)); refine (HWB.out _).mono ?_; rintro e w1 ⟨rfl, rfl⟩))
            go_round
            case rel => exact ⟨k + 1, by omega, by go_num, by rw [HS2.out], by rw [HT2.out]⟩
            case measure => simp [intOf]; omega
        · rw [hya rfl] at HWA
          clear hya hna
          cases bb
          · obtain rfl := hnb rfl
            clear hyb hnb HWB
            go_wp2_with (first
              | (go_at_call_of 15 (Value.int IntKind.i64 a); refine (HQA.out _).mono ?_; rintro e w1 ⟨rfl, rfl⟩)
              | (go_at_call_of 15 (Value.int IntKind.i64 b); refine (HQB.out _).mono ?_; rintro e w1 ⟨rfl, rfl⟩)
              | (go_at_call_of 13 (Value.int IntKind.i64 (x1 : Int)); refine (HWA.out _).mono ?_; rintro e w1 ⟨rfl, rfl⟩))
            go_round
            case rel => exact ⟨k + 1, by omega, by go_num, by rw [HS2.out], by rw [HT2.out]⟩
            case measure => simp [intOf]; omega
          · rw [hyb rfl] at HWB
            clear hyb hnb
            go_wp2_with (first
              | (go_at_call_of 15 (Value.int IntKind.i64 a); refine (HQA.out _).mono ?_; rintro e w1 ⟨rfl, rfl⟩)
              | (go_at_call_of 15 (Value.int IntKind.i64 b); refine (HQB.out _).mono ?_; rintro e w1 ⟨rfl, rfl⟩)
              | (go_at_call_of 13 (Value.int IntKind.i64 (x1 : Int)); refine (HWA.out _).mono ?_; rintro e w1 ⟨rfl, rfl⟩)
              | (go_at_call_of 13 (Value.int IntKind.i64 (y1 : Int)); refine (HWB.out _).mono ?_; rintro e w1 ⟨rfl, rfl⟩))
            go_round
            case rel => exact ⟨k + 1, by omega, by go_num, by rw [HS2.out], by rw [HT2.out]⟩
            case measure => simp [intOf]; omega
      · obtain rfl : k = n := by omega
        have HSA := hid (fun W => size_any (lowN (bitsQ a) k : Int) W)
        have HSB := hid (fun W => size_any (lowN (bitsQ b) k : Int) W)
        have HXA := hid (fun j W => has_any (lowN (bitsQ a) k : Int) j W)
        have HXB := hid (fun j W => has_any (lowN (bitsQ b) k : Int) j W)
        clear HLA HLB HHA HHB HA HE
        generalize lowN (bitsQ a) k = x1 at HSA HXA HEND
        generalize lowN (bitsQ b) k = y1 at HSB HXB HEND
        generalize sizeQ (x1 : Int) = sx at HSA HEND
        generalize sizeQ (y1 : Int) = sy at HSB HEND
        by_cases h1 : (sx : Int) < m
        · go_wp2_with (first
            | (go_at_call_of 17 (Value.int IntKind.i64 (x1 : Int)); refine (HSA.out _).mono ?_; rintro e w1 ⟨rfl, rfl⟩))
          go_ret
          exact ⟨rfl, Below.refl _ _⟩
        · by_cases h2 : (sy : Int) < m
          · go_wp2_with (first
              | (go_at_call_of 17 (Value.int IntKind.i64 (x1 : Int)); refine (HSA.out _).mono ?_; rintro e w1 ⟨rfl, rfl⟩)
              | (go_at_call_of 17 (Value.int IntKind.i64 (y1 : Int)); refine (HSB.out _).mono ?_; rintro e w1 ⟨rfl, rfl⟩))
            go_ret
            exact ⟨rfl, Below.refl _ _⟩
          · have HF := hid (HEND.out (by omega) (by omega))
            clear HEND
            go_wp2_with (first
              | (go_at_call_of 17 (Value.int IntKind.i64 (x1 : Int)); refine (HSA.out _).mono ?_; rintro e w1 ⟨rfl, rfl⟩)
              | (go_at_call_of 17 (Value.int IntKind.i64 (y1 : Int)); refine (HSB.out _).mono ?_; rintro e w1 ⟨rfl, rfl⟩))
            go_loop [11] (fun i => ∃ q : Nat, q ≤ k ∧ i = .int .i64 ((q : Int) + 1) ∧ Hid (∀ j, j < q → (hasQ (x1 : Int) ((j : Int) + 1) && hasQ (y1 : Int) ((j : Int) + 1)) = false)) (fun i => k + 1 - (intOf i).toNat)
            case atStart => exact ⟨0, by omega, rfl, hid (fun j hj => absurd hj (by omega))⟩
            case round =>
              obtain ⟨q, hq, rfl, hpast⟩ := hrel
              by_cases hqk : q < k
              · have HP := hid (fun W => HXA.out ((q : Int) + 1) W)
                have HR := hid (fun W => HXB.out ((q : Int) + 1) W)
                have hstep : (hasQ (x1 : Int) ((q : Int) + 1) && hasQ (y1 : Int) ((q : Int) + 1)) = false → ∀ j, j < q + 1 → (hasQ (x1 : Int) ((j : Int) + 1) && hasQ (y1 : Int) ((j : Int) + 1)) = false := fun h j hj => by
                  by_cases e : j = q
                  · subst e; exact h
                  · exact hpast.out j (by omega)
                have HSTEP := hid hstep
                clear hstep
                generalize hasQ (x1 : Int) ((q : Int) + 1) = ba at HP HSTEP
                generalize hasQ (y1 : Int) ((q : Int) + 1) = bb at HR HSTEP
                cases ba
                · go_wp2_with (first
                    | (go_at_call_of 15 (Value.int IntKind.i64 (x1 : Int)); refine (HP.out _).mono ?_; rintro e w1 ⟨rfl, rfl⟩))
                  go_round
                  case rel => exact ⟨q + 1, by omega, by go_num, hid (HSTEP.out rfl)⟩
                  case measure => simp [intOf]; omega
                · cases bb
                  · go_wp2_with (first
                      | (go_at_call_of 15 (Value.int IntKind.i64 (x1 : Int)); refine (HP.out _).mono ?_; rintro e w1 ⟨rfl, rfl⟩)
                      | (go_at_call_of 15 (Value.int IntKind.i64 (y1 : Int)); refine (HR.out _).mono ?_; rintro e w1 ⟨rfl, rfl⟩))
                    go_round
                    case rel => exact ⟨q + 1, by omega, by go_num, hid (HSTEP.out rfl)⟩
                    case measure => simp [intOf]; omega
                  · go_wp2_with (first
                      | (go_at_call_of 15 (Value.int IntKind.i64 (x1 : Int)); refine (HP.out _).mono ?_; rintro e w1 ⟨rfl, rfl⟩)
                      | (go_at_call_of 15 (Value.int IntKind.i64 (y1 : Int)); refine (HR.out _).mono ?_; rintro e w1 ⟨rfl, rfl⟩))
                    go_ret
                    exact ⟨rfl, Below.refl _ _⟩
              · obtain rfl : q = k := by omega
                exact (HF.out hpast.out).elim
  · have hm2 : mayQ c = false := by simpa using hm
    have he : enoughQ c = 0 := by
      have h35 : ¬ c = 3 ∧ ¬ c = 5 := by unfold mayQ at hm; simpa using hm
      unfold enoughQ
      rw [if_neg h35.1, if_neg h35.2]
    rw [hm2] at HM
    rw [he] at HE
    clear hm hm2 he
    go_enter Try.func5, Try.ntmps5
    go_wp2_with (first
      | (go_at_call 7; refine (HA.out _).mono ?_; rintro e w1 ⟨rfl, rfl⟩)
      | (go_at_call 8; refine (HM.out _).mono ?_; rintro e w1 ⟨rfl, rfl⟩)
      | (go_at_call 9; refine (HE.out _).mono ?_; rintro e w1 ⟨rfl, rfl⟩))
    go_ret
    exact ⟨rfl, Below.refl _ _⟩
