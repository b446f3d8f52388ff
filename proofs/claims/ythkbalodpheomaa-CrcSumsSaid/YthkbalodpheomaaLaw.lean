/-
  The walks of the laws of layer 2.
-/
import Derived.Test.YthkbalodpheomaaChain
import Derived.Test.YthkbalodpheomaaLift
namespace Go.Proofs.Ythkbalodpheomaa
open Go.RowKit

theorem u64_zero : ((0#64 : BitVec 64).toNat : Int) = 0 := rfl

set_option maxHeartbeats 800000 in
theorem awake_any (w : World) : Calls Try.prog 8 #[] w (Yes w) := by
  have P1 : ∀ W : World, Calls Try.prog 11 #[.string ⟨#[49, 50, 51, 52, 53, 54, 55, 56, 57]⟩] W fun e W' => e = .returned (.int .u32 3808858755) ∧ Below W.heap.size W W' := by
    intro W
    have h := sum_calls ⟨#[49, 50, 51, 52, 53, 54, 55, 56, 57]⟩ W (by decide)
    rw [show ((addS 0#32 (sb ⟨#[49, 50, 51, 52, 53, 54, 55, 56, 57]⟩)).toNat : Int) = 3808858755 from by decide +kernel] at h
    exact h
  have P2 : ∀ W : World, Calls Try.prog 11 #[.string ⟨#[]⟩] W fun e W' => e = .returned (.int .u32 0) ∧ Below W.heap.size W W' := by
    intro W
    have h := sum_calls ⟨#[]⟩ W (by decide)
    rw [show ((addS 0#32 (sb ⟨#[]⟩)).toNat : Int) = 0 from by decide +kernel] at h
    exact h
  have P3 : ∀ W : World, Calls Try.prog 13 #[.int .u64 0, .string ⟨#[]⟩] W fun e W' => ∃ n : Int, e = .returned (.int .u64 n) ∧ Hid ((n != 0) = true) ∧ Below W.heap.size W W' := by
    intro W
    have h := chain_calls 0#64 ⟨#[]⟩ W (by decide)
    rw [u64_zero] at h
    exact h.mono fun e W' hh => ⟨_, hh.1, hid (by decide +kernel), hh.2⟩
  have H1 := hid P1
  have H2 := hid P2
  have H3 := hid P3
  clear P1 P2 P3
  go_enter Try.func8, Try.ntmps8
  go_wp2_with fail
  refine (H1.out _).mono ?_
  rintro e w1 ⟨rfl, hb1⟩
  go_wp2_with fail
  refine (H2.out _).mono ?_
  rintro e w2 ⟨rfl, hb2⟩
  go_wp2_with fail
  refine (H3.out _).mono ?_
  rintro e w3 ⟨n3, rfl, hn3, hb3⟩
  have hn4 := hn3.out
  go_wp2_with fail
  go_ret
  exact ⟨rfl, (hb1.trans (hb2.mono hb1.size)).trans (hb3.mono (Nat.le_trans hb1.size hb2.size))⟩

set_option maxHeartbeats 800000 in
theorem sums_any (x : BitVec 32) (s : ByteArray) (w : World) (hs : s.size ≤ 1125899906842624) :
    Calls Try.prog 3 #[.int .u32 (x.toNat : Int), .string s] w (Yes w) := by
  go_enter Try.func3, Try.ntmps3
  go_wp2_with (first
    | (go_at_call 8; refine (awake_any _).mono ?_; rintro e w1 ⟨rfl, hb1⟩)
    | (go_at_call 9; refine (add_calls _ _ _ hs).mono ?_; rintro e w2 ⟨rfl, hb2⟩)
    | (go_at_call 10; refine (radd_calls _ _ _ hs).mono ?_; rintro e w3 ⟨rfl, rfl⟩)
    | (go_at_call 11; refine (sum_calls _ _ hs).mono ?_; rintro e w4 ⟨rfl, hb4⟩)
    | (go_at_call 12; refine (rsum_calls _ _ hs).mono ?_; rintro e w5 ⟨rfl, rfl⟩))
  go_ret
  exact ⟨rfl, (hb1.trans (hb2.mono hb1.size)).trans (hb4.mono (Nat.le_trans hb1.size hb2.size))⟩

set_option maxHeartbeats 800000 in
theorem chains_any (h : BitVec 64) (s : ByteArray) (w : World) (hs : s.size ≤ 1125899906842624) :
    Calls Try.prog 6 #[.int .u64 (h.toNat : Int), .string s] w (Yes w) := by
  go_enter Try.func6, Try.ntmps6
  go_wp2_with (first
    | (go_at_call 8; refine (awake_any _).mono ?_; rintro e w1 ⟨rfl, hb1⟩)
    | (go_at_call 13; refine (chain_calls _ _ _ hs).mono ?_; rintro e w2 ⟨rfl, hb2⟩)
    | (go_at_call 14; refine (rchain_calls _ _ _ hs).mono ?_; rintro e w3 ⟨rfl, rfl⟩))
  go_ret
  exact ⟨rfl, hb1.trans (hb2.mono hb1.size)⟩

theorem addS_app (x : BitVec 32) (a b : List UInt8) : addS (addS x a) b = addS x (a ++ b) := by
  unfold addS
  rw [byAll_app, BitVec.not_not]

set_option maxHeartbeats 800000 in
theorem joins_any (s t : ByteArray) (w : World) (hs : s.size ≤ 140737488351232) (ht : t.size ≤ 140737488351232) :
    Calls Try.prog 4 #[.string s, .string t] w (Yes w) := by
  have HA := hid (addS_app 0#32 (sb s) (sb t))
  go_enter Try.func4, Try.ntmps4
  go_wp2_with (go_at_call 8; refine (awake_any _).mono ?_; rintro e w1 ⟨rfl, hb1⟩)
  refine (sum_calls _ _ (by omega)).mono ?_
  rintro e w2 ⟨rfl, hb2⟩
  go_wp2_with fail
  refine (add_calls _ _ _ (by omega)).mono ?_
  rintro e w3 ⟨rfl, hb3⟩
  go_wp2_with fail
  refine (sum_calls _ _ (by simp; omega)).mono ?_
  rintro e w4 ⟨rfl, hb4⟩
  rw [show sb (s ++ t) = sb s ++ sb t from by simp [sb], HA.out]
  go_wp2_with fail
  go_ret
  exact ⟨rfl, ((hb1.trans (hb2.mono hb1.size)).trans (hb3.mono (Nat.le_trans hb1.size hb2.size))).trans (hb4.mono (Nat.le_trans hb1.size (Nat.le_trans hb2.size hb3.size)))⟩

theorem one_str (W : World) (c : UInt8) : (convert 28 9 (.slice (some ⟨W.heap.size, 0, none⟩) 1 1)).run Try.prog (W.alloc (.cells #[.int .u8 (c.toNat : Int)] 5)) = .ok (.string ⟨#[c]⟩) (W.alloc (.cells #[.int .u8 (c.toNat : Int)] 5)) :=
  run_str _ 28 5 Try.underlying28 Try.underlying5 9 Try.underlying9 (W.heap.size + 1) (some ⟨W.heap.size, 0, none⟩) [c] 1 1 rfl (Row.rd (cs := bvs [c]) (Row.new W 5 _) (by omega))
theorem two_str (W : World) (c : UInt8) (o : Obj) : (convert 28 9 (.slice (some ⟨W.heap.size + 1, 0, none⟩) 1 1)).run Try.prog ((W.alloc o).alloc (.cells #[.int .u8 (c.toNat : Int)] 5)) = .ok (.string ⟨#[c]⟩) ((W.alloc o).alloc (.cells #[.int .u8 (c.toNat : Int)] 5)) := by
  have h := one_str (W.alloc o) c
  rw [show (W.alloc o).heap.size = W.heap.size + 1 from by simp] at h
  exact h
theorem chain_one (h : BitVec 64) (c : UInt8) (W : World) : Calls Try.prog 13 #[.int .u64 (h.toNat : Int), .string ⟨#[c]⟩] W fun e W' => e = .returned (.int .u64 ((chainOf h [c]).toNat : Int)) ∧ Below W.heap.size W W' :=
  chain_calls h ⟨#[c]⟩ W (by show (1 : Nat) ≤ _; omega)
theorem toNat_ne {n : Nat} (x y : BitVec n) (h : x ≠ y) : ((x.toNat : Int) == (y.toNat : Int)) = false := by
  rw [beq_eq_false_iff_ne]
  intro e
  exact h (BitVec.eq_of_toNat_eq (by exact_mod_cast e))
theorem byte_ne (x y : UInt8) (h : x ≠ y) : ((x.toNat : Int) == (y.toNat : Int)) = false := by
  rw [beq_eq_false_iff_ne]
  intro e
  exact h (UInt8.toNat_inj.1 (by exact_mod_cast e))

theorem five_below {w w1 w2 w3 w4 w5 : World} {o p : Obj} (h1 : Below w.heap.size w w1) (h2 : Below ((w1.alloc o).alloc p).heap.size ((w1.alloc o).alloc p) w2) (h3 : Below w2.heap.size w2 w3) (h4 : Below w3.heap.size w3 w4) (h5 : Below w4.heap.size w4 w5) :
    Below w.heap.size w w5 := by
  have s1 := h1.size
  have s2 := h2.size
  simp at s2
  have a : w.heap.size ≤ w2.heap.size := by omega
  exact ((((h1.alloc s1 _).alloc (by simp; omega) _).trans (h2.mono (by simp; omega))).trans (h3.mono a)).trans ((h4.mono (Nat.le_trans a h3.size)).trans (h5.mono (Nat.le_trans a (Nat.le_trans h3.size h4.size))))

set_option maxHeartbeats 3200000 in
theorem links_any (h g : BitVec 64) (c d : UInt8) (w : World) :
    Calls Try.prog 7 #[.int .u64 (h.toNat : Int), .int .u64 (g.toNat : Int), .int .u8 (c.toNat : Int), .int .u8 (d.toNat : Int)] w (Yes w) := by
  have E1 := fun W => one_str W c
  have E2 := fun W o => two_str W d o
  by_cases hg : h = g
  all_goals by_cases hc : c = d
  · subst hg hc
    go_enter Try.func7, Try.ntmps7
    go_wp2_with (go_at_call 8; refine (awake_any _).mono ?_; rintro e w1 ⟨rfl, hb1⟩)
    refine (chain_one _ _ _).mono ?_
    rintro e w2 ⟨rfl, hb2⟩
    go_wp2_with fail
    refine (chain_one _ _ _).mono ?_
    rintro e w3 ⟨rfl, hb3⟩
    go_wp2_with fail
    refine (chain_one _ _ _).mono ?_
    rintro e w4 ⟨rfl, hb4⟩
    go_wp2_with fail
    refine (chain_one _ _ _).mono ?_
    rintro e w5 ⟨rfl, hb5⟩
    go_wp2_with fail
    go_ret
    exact ⟨rfl, five_below hb1 hb2 hb3 hb4 hb5⟩
  · subst hg
    have n2 := byte_ne c d hc
    have n4 := toNat_ne (chainOf h [c]) (chainOf h [d]) (fun e => hc ((chain_byte h c d).1 e))
    clear hc
    go_enter Try.func7, Try.ntmps7
    go_wp2_with (go_at_call 8; refine (awake_any _).mono ?_; rintro e w1 ⟨rfl, hb1⟩)
    refine (chain_one _ _ _).mono ?_
    rintro e w2 ⟨rfl, hb2⟩
    go_wp2_with fail
    refine (chain_one _ _ _).mono ?_
    rintro e w3 ⟨rfl, hb3⟩
    go_wp2_with fail
    refine (chain_one _ _ _).mono ?_
    rintro e w4 ⟨rfl, hb4⟩
    go_wp2_with fail
    refine (chain_one _ _ _).mono ?_
    rintro e w5 ⟨rfl, hb5⟩
    go_wp2_with fail
    go_ret
    exact ⟨rfl, five_below hb1 hb2 hb3 hb4 hb5⟩
  · subst hc
    have n1 := toNat_ne h g hg
    have n3 := toNat_ne (chainOf h [c]) (chainOf g [c]) (fun e => hg ((chain_head h g c).1 e))
    clear hg
    go_enter Try.func7, Try.ntmps7
    go_wp2_with (go_at_call 8; refine (awake_any _).mono ?_; rintro e w1 ⟨rfl, hb1⟩)
    refine (chain_one _ _ _).mono ?_
    rintro e w2 ⟨rfl, hb2⟩
    go_wp2_with fail
    refine (chain_one _ _ _).mono ?_
    rintro e w3 ⟨rfl, hb3⟩
    go_wp2_with fail
    refine (chain_one _ _ _).mono ?_
    rintro e w4 ⟨rfl, hb4⟩
    go_wp2_with fail
    refine (chain_one _ _ _).mono ?_
    rintro e w5 ⟨rfl, hb5⟩
    go_wp2_with fail
    go_ret
    exact ⟨rfl, five_below hb1 hb2 hb3 hb4 hb5⟩
  · have n1 := toNat_ne h g hg
    have n2 := byte_ne c d hc
    have n3 := toNat_ne (chainOf h [c]) (chainOf g [c]) (fun e => hg ((chain_head h g c).1 e))
    have n4 := toNat_ne (chainOf h [c]) (chainOf h [d]) (fun e => hc ((chain_byte h c d).1 e))
    clear hg hc
    go_enter Try.func7, Try.ntmps7
    go_wp2_with (go_at_call 8; refine (awake_any _).mono ?_; rintro e w1 ⟨rfl, hb1⟩)
    refine (chain_one _ _ _).mono ?_
    rintro e w2 ⟨rfl, hb2⟩
    go_wp2_with fail
    refine (chain_one _ _ _).mono ?_
    rintro e w3 ⟨rfl, hb3⟩
    go_wp2_with fail
    refine (chain_one _ _ _).mono ?_
    rintro e w4 ⟨rfl, hb4⟩
    go_wp2_with fail
    refine (chain_one _ _ _).mono ?_
    rintro e w5 ⟨rfl, hb5⟩
    go_wp2_with fail
    go_ret
    exact ⟨rfl, five_below hb1 hb2 hb3 hb4 hb5⟩
end Go.Proofs.Ythkbalodpheomaa
