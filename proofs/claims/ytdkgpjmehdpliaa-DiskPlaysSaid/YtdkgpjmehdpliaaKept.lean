/-
  The walks of lasting and of the closures: how many bytes of a write last.
-/
import Derived.Test.YtdkgpjmehdpliaaTake
namespace Go.Proofs.Ytdkgpjmehdpliaa
open Go.RowKit

theorem quiet_eq {P : Program} {f : FuncId} {args : Array Value} {w : World} {n : Nat} {v : Value}
    (h : Calls P f args (w.drewN n) fun e w' => e = .returned v ∧ w.drewN n = w') : Calls P f args (w.drewN n) fun e w'' => e = .returned v ∧ ∃ m, w'' = w.drewN m :=
  h.mono fun _ _ ⟨he, hm⟩ => ⟨he, n, hm.symm⟩

def ints (l : List Int) : List Value := l.map (Value.int .i64)
theorem ints_len (l : List Int) : (ints l).length = l.length := by simp [ints]

theorem kept_two (p : Int) (h : 0 ≤ p) (h1 : ¬ p % 3 = 1) (h2 : p % 3 = 2) : p / 3 % 385 = ((keptS p : Nat) : Int) := by
  unfold keptS
  rw [if_neg (by omega), if_neg h1]
  omega
theorem kept_one (p : Int) (h : 0 ≤ p) (h1 : p % 3 = 1) : (384 : Int) = ((keptS p : Nat) : Int) := by
  unfold keptS
  rw [if_neg (by omega), if_pos h1]
  rfl
theorem kept_none (p : Int) (h : p < 0 ∨ p % 3 = 0) : (0 : Int) = ((keptS p : Nat) : Int) := by
  unfold keptS
  rw [if_pos h]
  rfl
theorem retN {a : Int} {n : Nat} (h : a = (n : Int)) : Ending.returned (.int .i64 a) = .returned (.int .i64 (n : Int)) := by rw [h]

theorem lasting_any (p : Int) (w : World) (hp : p ≤ 9223372036854775807) :
    Calls Try.prog 42 #[.int .i64 p] w fun e w' => e = .returned (.int .i64 (keptS p : Int)) ∧ w = w' := by
  by_cases h0 : 0 ≤ p
  · have hm : ¬ p < 0 := by omega
    by_cases h1 : p % 3 = 1
    · have HK := hid (kept_one p h0 h1)
      have t1 : (p % 3 == 1) = true := by simp [h1]
      clear h1
      go_enter Try.func42, Try.ntmps42
      go_wp2_with fail
      all_goals (go_ret; exact ⟨retN HK.out, rfl⟩)
    · have t1 : (p % 3 == 1) = false := by simp [h1]
      by_cases h2 : p % 3 = 2
      · have t2 : (p % 3 == 2) = true := by simp [h2]
        have HK := hid (kept_two p h0 h1 h2)
        clear h1 h2
        go_enter Try.func42, Try.ntmps42
        go_wp2_with fail
        all_goals (go_ret; exact ⟨retN HK.out, rfl⟩)
      · have t2 : (p % 3 == 2) = false := by simp [h2]
        have HK := hid (kept_none p (by omega))
        clear h1 h2
        go_enter Try.func42, Try.ntmps42
        go_wp2_with fail
        all_goals (go_ret; exact ⟨retN HK.out, rfl⟩)
  · have HK := hid (kept_none p (by omega))
    have hm : p < 0 := by omega
    clear h0
    go_enter Try.func42, Try.ntmps42
    go_wp2_with fail
    all_goals (go_ret; exact ⟨retN HK.out, rfl⟩)

theorem flush1_any (k : Nat) (w : World) :
    Calls Try.prog 44 #[.int .i64 (k : Int)] w fun e w' => e = .returned (.int .i64 384) ∧ w = w' := by
  go_enter Try.func44, Try.ntmps44
  go_wp2
  go_ret
  exact ⟨rfl, rfl⟩

theorem start1_none (k pb : Nat) (A : Option Addr) (c : Nat) (w : World) (hb : w.cell? ⟨pb, 0, none⟩ = some (.slice A 0 c)) :
    Calls Try.prog 41 #[.int .i64 (k : Int), .pointer (some ⟨pb, 0, none⟩)] w fun e w' => e = .returned (.int .i64 0) ∧ w = w' := by
  go_enter Try.func41, Try.ntmps41
  go_wp2
  go_ret
  exact ⟨rfl, rfl⟩

set_option maxRecDepth 10000 in
theorem start1_some (k pb g o n c : Nat) (x : Int) (w : World) (hb : w.cell? ⟨pb, 0, none⟩ = some (.slice (some ⟨g, o, none⟩) n c)) (hn : 0 < n) (hn2 : n ≤ 9223372036854775807) (hk : k ≤ 9223372036854775807)
    (hx : w.cell? ⟨g, o + k % n, none⟩ = some (.int .i64 x)) (hx2 : x ≤ 9223372036854775807) :
    Calls Try.prog 41 #[.int .i64 (k : Int), .pointer (some ⟨pb, 0, none⟩)] w fun e w' => e = .returned (.int .i64 (keptS x : Int)) ∧ ∃ m, w' = w.drewN m := by
  have h1 : ((n : Int) == 0) = false := by simp; omega
  have h2 : ¬ n = 0 := by omega
  have h3 : (k : Int) % (n : Int) < (n : Int) := Int.emod_lt_of_pos _ (by omega)
  have h4 : 0 ≤ (k : Int) % (n : Int) := Int.emod_nonneg _ (by omega)
  have h5 : ((k : Int) % (n : Int)).toNat = k % n := by rw [← Int.natCast_emod]; rfl
  have h6 : (k : Int).tmod (n : Int) = (k : Int) % (n : Int) := Int.tmod_eq_emod_of_nonneg (by omega)
  go_enter Try.func41, Try.ntmps41
  go_wp2_with fail
  go_quiet (first | (go_at_call 42; exact quiet_eq (lasting_any x _ hx2)))
  go_wp2
  go_ret
  exact ⟨rfl, _, rfl⟩

theorem start1_any (k pb : Nat) (picks : List Int) (A : Option Addr) (c B : Nat) (w : World) (hb : w.cell? ⟨pb, 0, none⟩ = some (.slice A picks.length c)) (hr : Rd w B A (ints picks)) (hp : ∀ x ∈ picks, x ≤ 9223372036854775807)
    (hn : picks.length ≤ 9223372036854775807) (hk : k ≤ 9223372036854775807) :
    Calls Try.prog 41 #[.int .i64 (k : Int), .pointer (some ⟨pb, 0, none⟩)] w fun e w' => e = .returned (.int .i64 (pickOf picks k : Int)) ∧ ∃ m, w' = w.drewN m := by
  by_cases h0 : picks = []
  · subst h0
    refine (start1_none k pb A c w hb).mono ?_
    rintro e w' ⟨rfl, rfl⟩
    exact ⟨by simp [pickOf], 0, rfl⟩
  · have hl : 0 < picks.length := List.length_pos_iff.2 h0
    have hm : k % picks.length < picks.length := Nat.mod_lt _ hl
    obtain ⟨g, o, rfl, _, hc⟩ := hr.at_ (j := k % picks.length) (by rw [ints_len]; exact hm)
    have e1 : pickOf picks k = keptS picks[k % picks.length] := by
      unfold pickOf
      rw [if_neg h0]
      simp [hm]
    rw [e1]
    refine start1_some k pb g o picks.length c _ w hb hl hn hk ?_ (hp _ (List.getElem_mem hm))
    rw [hc]
    simp [ints]
end Go.Proofs.Ytdkgpjmehdpliaa
