/-
  The walks of Put and PutText, and of the answers held against them.
-/
import Derived.Test.YtknalgobndbngaaDoorLay
namespace Go.Proofs.YtknalgobndbngaaDoor
open Go.RowKit
set_option maxRecDepth 10000

theorem own_shape {w : World} {B : Nat} {e : TypeId} {v : Value} {n : Nat} {xs : List Value} (h : w.ownsRow B e 1 v n xs) :
    ∃ A c, v = .slice A n c ∧ n ≤ c ∧ xs.length = n ∧ Rd w w.heap.size A xs := by
  obtain ⟨h1, h2⟩ := h
  have h3 : xs.length = n := by omega
  subst h3
  rcases h2 with ⟨rfl, h0⟩ | ⟨g, cap, cur, rfl, a, b, c, d⟩
  · rw [h0]
    exact ⟨none, 0, rfl, Nat.le_refl _, rfl, by rw [List.eq_nil_of_length_eq_zero h0]; exact Rd.nil⟩
  · exact ⟨_, cap, rfl, c, rfl, Rd.of_own ⟨h1, .inr ⟨g, cap, cur, rfl, a, b, c, d⟩⟩⟩

/-- new bytes and an error's number -/
def BE (w : World) (r : List UInt8 × Int) (e : Ending) (w' : World) : Prop :=
  ∃ A c, e = .returned (.tuple #[.slice A r.1.length c, .int .i64 r.2]) ∧ w'.ownsRow w.heap.size 5 1 (.slice A r.1.length c) r.1.length (bvs r.1) ∧ Below w.heap.size w w'

/-- what Put answers -/
def putS (bs : List UInt8) (n : Nat) (size : Int) : List UInt8 × Int :=
  if 1 ≤ size ∧ size ≤ 8 ∧ n / 2 ^ (8 * size.toNat) = 0 then (bs ++ le n size.toNat, 0) else ([], 1)

theorem isSize_yes (n : Int) (w : World) (h1 : 1 ≤ n) (h2 : n ≤ 8) :
    Calls Tryd.prog 52 #[.int .i64 n] w fun e w' => e = .returned (.bool true) ∧ w = w' := by
  go_enter Tryd.func52, Tryd.ntmps52
  go_wp2
  go_ret
  exact ⟨by simp, rfl⟩
theorem isSize_no (n : Int) (w : World) (h : ¬ (1 ≤ n ∧ n ≤ 8)) :
    Calls Tryd.prog 52 #[.int .i64 n] w fun e w' => e = .returned (.bool false) ∧ w = w' := by
  by_cases h1 : 1 ≤ n
  · have h2 : ¬ n ≤ 8 := fun h2 => h ⟨h1, h2⟩
    clear h
    go_enter Tryd.func52, Tryd.ntmps52
    go_wp2
    go_ret
    exact ⟨by simp, rfl⟩
  · have h2 : decide (1 ≤ n) = false := by simp; omega
    clear h
    go_enter Tryd.func52, Tryd.ntmps52
    go_wp2
    go_ret
    exact ⟨by simp, rfl⟩

set_option maxHeartbeats 400000 in
theorem put_no (A : Option Addr) (l c n : Nat) (size : Int) (w : World) (h : ¬ (1 ≤ size ∧ size ≤ 8)) :
    Calls Tryd.prog 44 #[.slice A l c, .int .u64 n, .int .i64 size] w (BE w ([], 1)) := by
  have H := hid h
  clear h
  go_enter Tryd.func44, Tryd.ntmps44
  go_wp2_with (go_at_call 52; refine (isSize_no _ _ H.out).mono ?_; rintro e w' ⟨rfl, rfl⟩)
  go_ret2
  exact ⟨none, 0, rfl, World.ownsRow_nil _ _ _ _, Below.refl _ _⟩

set_option maxHeartbeats 400000 in
theorem put_big (A : Option Addr) (l c n s : Nat) (w : World) (h0 : 1 ≤ s) (h8 : s ≤ 8) (hn : ((n : Int) / 2 ^ (8 * s) != 0) = true) :
    Calls Tryd.prog 44 #[.slice A l c, .int .u64 n, .int .i64 s] w (BE w ([], 1)) := by
  go_enter Tryd.func44, Tryd.ntmps44
  go_wp2_with (go_at_call 52; refine (isSize_yes _ _ (by omega) (by omega)).mono ?_; rintro e w' ⟨rfl, rfl⟩)
  go_ret2
  exact ⟨none, 0, rfl, World.ownsRow_nil _ _ _ _, Below.refl _ _⟩

theorem BE_row {w w' : World} {g : Nat} {bs : List UInt8} {n : Nat} (hn : n = bs.length) (hg : w.heap.size ≤ g) (hr : Row w' g 5 (bvs bs)) (hm : n ≤ maxLen) (hb : Below w.heap.size w w') :
    BE w (bs, 0) (.returned (.tuple #[.slice (some ⟨g, 0, none⟩) n n, .int .i64 0])) w' := by
  subst hn
  refine ⟨_, _, rfl, ?_, hb⟩
  have h := hr.own (B := w.heap.size) hg (by rw [bvs_len]; exact hm)
  rw [bvs_len] at h
  exact h

set_option maxHeartbeats 400000 in
theorem put_ok (A : Option Addr) (bs : List UInt8) (l c n s B : Nat) (w : World) (hr : Rd w B A (bvs bs)) (hl : l = bs.length) (h0 : 1 ≤ s) (h8 : s ≤ 8) (hB : B ≤ w.heap.size) (hl2 : l ≤ 140737488351232)
    (hn : ((n : Int) / 2 ^ (8 * s) != 0) = false) :
    Calls Tryd.prog 44 #[.slice A l c, .int .u64 n, .int .i64 s] w (BE w (bs ++ le n s, 0)) := by
  have H1 := hid hl
  clear hl
  go_enter Tryd.func44, Tryd.ntmps44
  go_wp2_with (first
    | (go_at_call 52; refine (isSize_yes _ _ (by omega) (by omega)).mono ?_; rintro e w' ⟨rfl, rfl⟩)
    | (go_at_call 53; refine (lay_any A bs l c n s B _ hr H1.out h8 hB hl2).mono ?_; rintro e w1 ⟨g, rfl, hg, hrow, hbe⟩))
  go_ret2
  exact BE_row (by simp [le_len, H1.out]) hg hrow (by simp only [maxLen]; omega) hbe

theorem int_div_pow (n k : Nat) : ((n : Int) / 2 ^ k) = ((n / 2 ^ k : Nat) : Int) := by simp

theorem put_any (A : Option Addr) (bs : List UInt8) (l c n B : Nat) (size : Int) (w : World) (hr : Rd w B A (bvs bs)) (hl : l = bs.length) (hB : B ≤ w.heap.size) (hl2 : l ≤ 140737488351232) :
    Calls Tryd.prog 44 #[.slice A l c, .int .u64 n, .int .i64 size] w (BE w (putS bs n size)) := by
  by_cases h : 1 ≤ size ∧ size ≤ 8
  · obtain ⟨s, rfl⟩ := Int.eq_ofNat_of_zero_le (show 0 ≤ size by omega)
    by_cases h2 : n / 2 ^ (8 * s) = 0
    · have e : putS bs n s = (bs ++ le n s, 0) := by
        unfold putS
        rw [if_pos ⟨h.1, h.2, by simpa using h2⟩]
        simp
      rw [e]
      exact put_ok A bs l c n s B w hr hl (by omega) (by omega) hB hl2 (by rw [int_div_pow, h2]; rfl)
    · have e : putS bs n s = ([], 1) := by
        unfold putS
        rw [if_neg (fun h3 => h2 (by simpa using h3.2.2))]
      rw [e]
      exact put_big A l c n s w (by omega) (by omega) (by rw [int_div_pow]; exact bne_iff_ne.2 (fun h => h2 (by exact_mod_cast h)))
  · have e : putS bs n size = ([], 1) := by
      unfold putS
      rw [if_neg (fun h3 => h ⟨h3.1, h3.2.1⟩)]
    rw [e]
    exact put_no A l c n size w h
end Go.Proofs.YtknalgobndbngaaDoor
