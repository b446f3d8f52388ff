/-
  The walks of the laws of layer 1.
-/
import Derived.Test.YtdnbcgpihedhgaaTtext
import Derived.Test.YtdnbcgpihedhgaaLift
namespace Go.Proofs.Ytdnbcgpihedhgaa
open Go.RowKit

theorem own_below {w w' : World} {B : Nat} {e : TypeId} {size n : Nat} {v : Value} {xs : List Value} (h : w.ownsRow B e size v n xs) (hb : Below w.heap.size w w') : w'.ownsRow B e size v n xs := by
  obtain ⟨h1, h2⟩ := h
  refine ⟨h1, ?_⟩
  rcases h2 with h2 | ⟨g, cap, cur, hv, hg, hh, r⟩
  · exact .inl h2
  · exact .inr ⟨g, cap, cur, hv, hg, by rw [hb.block g (Array.getElem?_eq_some_iff.1 hh).1]; exact hh, r⟩
theorem own_rd {w : World} {B n : Nat} {e : TypeId} {A : Option Addr} {c : Nat} {xs : List Value} (h : w.ownsRow B e 1 (.slice A n c) n xs) : Rd w w.heap.size A xs := by
  obtain ⟨A', c', hv, _, _, hr⟩ := own_shape h
  cases hv
  exact hr
theorem own_cap {w : World} {B n : Nat} {e : TypeId} {A : Option Addr} {c : Nat} {xs : List Value} (h : w.ownsRow B e 1 (.slice A n c) n xs) : n ≤ c := by
  obtain ⟨A', c', hv, hc, _, _⟩ := own_shape h
  cases hv
  exact hc
theorem own_str {w : World} {B n : Nat} {e : TypeId} {A : Option Addr} {c : Nat} {bs : List UInt8} (h : w.ownsRow B e 1 (.slice A n c) n (bvs bs)) (hn : n = bs.length) :
    (convert 22 9 (.slice A n c)).run Try.prog w = .ok (.string ⟨bs.toArray⟩) w :=
  run_str w 22 5 Try.underlying22 Try.underlying5 9 Try.underlying9 _ A bs n c hn (own_rd h)

set_option maxHeartbeats 800000 in
theorem awake_any (w : World) : Calls Try.prog 8 #[] w (Yes w) := by
  have P1 : ∀ W : World, Rd W (w.heap.size + 1) (some ⟨w.heap.size, 0, none⟩) (bvs [7]) → w.heap.size + 1 ≤ W.heap.size → Calls Try.prog 9 #[.slice (some ⟨w.heap.size, 0, none⟩) 1 1, .int .u64 258, .int .i64 2] W (BE W ([7, 2, 1], 0)) := by
    intro W h1 h2
    have h := put_any (some ⟨w.heap.size, 0, none⟩) [7] 1 1 258 (w.heap.size + 1) 2 W h1 rfl h2 (by omega)
    rw [show putS [7] 258 2 = ([7, 2, 1], 0) from by decide +kernel] at h
    exact h
  have P2 : ∀ W : World, Calls Try.prog 14 #[.slice none 0 0, .string ⟨#[97, 98]⟩] W (BE W ([2, 0, 97, 98], 0)) := by
    intro W
    have h := pt_any none [] 0 0 W.heap.size ⟨#[97, 98]⟩ W Rd.nil rfl (Nat.le_refl _) (by omega)
    rw [show ptS [] (sb ⟨#[97, 98]⟩) = ([2, 0, 97, 98], 0) from by decide +kernel] at h
    exact h
  have H1 := hid P1
  have H2 := hid P2
  clear P1 P2
  go_enter Try.func8, Try.ntmps8
  go_wp2_with (first
    | (go_at_call 9; refine (H1.out _ (fun _ => ⟨_, _, rfl, by omega, by intro j u hu; match j, hu with | 0, hu => simp [bvs, bv] at hu; subst hu; simp⟩) (by simp)).mono ?_; rintro e w1 hbe0; obtain ⟨A1, c1, rfl, hown1, hbe1⟩ := hbe0.len (n := 3) rfl; clear hbe0)
    | (go_at_call 14; refine (H2.out _).mono ?_; rintro e w2 hbe0; obtain ⟨A2, c2, rfl, hown2, hbe2⟩ := hbe0.len (n := 4) rfl; clear hbe0; have s1 := own_str (own_below hown1 hbe2) rfl; have s2 := own_str hown2 rfl))
  go_ret
  exact ⟨rfl, (((Below.refl _ _).alloc (Nat.le_refl _) _).trans (hbe1.mono (by simp))).trans (hbe2.mono (by have := hbe1.size; simp at this; omega))⟩

theorem leV_le : ∀ (k n : Nat), n / 2 ^ (8 * k) = 0 → leV (le n k) = n
  | 0, n, h => by simp at h; simp [le, leV, h]
  | k + 1, n, h => by
    rw [le, leV, leV_le k (n / 256) (by
      rw [Nat.div_div_eq_div_mul, ← h, show 8 * (k + 1) = 8 + 8 * k by omega, Nat.pow_add])]
    have : (UInt8.ofNat n).toNat = n % 256 := by simp
    rw [this]
    omega
theorem take_put (bs : List UInt8) (n : Nat) (size : Int) (out : List UInt8) (h : putS bs n size = (out, 0)) : takeS out bs.length size = (n, 0) := by
  unfold putS at h
  split at h
  · rename_i hc
    obtain ⟨h1, h2, h3⟩ := hc
    obtain ⟨s, rfl⟩ := Int.eq_ofNat_of_zero_le (show 0 ≤ size by omega)
    simp only [Prod.mk.injEq, and_true, Int.toNat_natCast] at h h3
    subst h
    unfold takeS
    rw [if_neg (by omega), if_neg (by simp [le_len])]
    simp only [Int.toNat_natCast, List.drop_left, Prod.mk.injEq, and_true]
    rw [List.take_of_length_le (by rw [le_len]; omega)]
    exact leV_le s n h3
  · cases h
theorem put_len (bs : List UInt8) (n : Nat) (size : Int) : (putS bs n size).1.length ≤ bs.length + 8 := by
  unfold putS
  split
  · simp [le_len]; omega
  · simp
theorem put_err (bs : List UInt8) (n : Nat) (size : Int) (out : List UInt8) (x : Int) (h : putS bs n size = (out, x)) : x = 0 ∨ (x = 1 ∧ out = []) := by
  unfold putS at h
  split at h
  · cases h; exact .inl rfl
  · cases h; exact .inr ⟨rfl, rfl⟩

theorem same_self {A A' : Option Addr} {xs : List UInt8} {l l' c c' B B' : Nat} {w : World} (hr : Rd w B A (bvs xs)) (hr' : Rd w B' A' (bvs xs)) (hl : l = xs.length) (hl' : l' = xs.length) :
    Calls Try.prog 11 #[.slice A l c, .slice A' l' c'] w fun e w' => e = .returned (.bool true) ∧ w = w' := by
  have h := same_any A A' xs xs l l' c c' B B' w hr hr' hl hl'
  rw [beq_self_eq_true] at h
  exact h

set_option maxHeartbeats 800000 in
theorem puts_any (A : Option Addr) (bs : List UInt8) (l c n : Nat) (size : Int) (w : World) (hr : Rd w w.heap.size A (bvs bs)) (hl : l = bs.length) (hl2 : l ≤ 140737488351232) (hn : n < 18446744073709551616) :
    Calls Try.prog 3 #[.slice A l c, .int .u64 n, .int .i64 size] w (Yes w) := by
  have hlen := put_len bs n size
  have herr := put_err bs n size
  have htk := take_put bs n size
  have P1 := fun (W : World) (h : Below w.heap.size w W) => put_any A bs l c n w.heap.size size W (hr.below h (Nat.le_refl _)) hl h.size hl2
  have P2 := fun (W : World) (h : Below w.heap.size w W) => rput_any A bs l c n w.heap.size size W (hr.below h (Nat.le_refl _)) hl h.size hl2 (hid hn)
  rcases hp : putS bs n size with ⟨out, x⟩
  rw [hp] at hlen
  simp only [hp] at P1 P2
  have HK := hid (htk out)
  have H1 := hid P1
  have H2 := hid P2
  have HP := hid hp
  have HL := hid hl
  clear htk P1 P2
  obtain ⟨m, hm⟩ : ∃ m, out.length = m := ⟨_, rfl⟩
  have HM := hid hm
  have hm2 : m ≤ l + 8 := by rw [← hm, hl]; exact hlen
  have hx := herr out x hp
  clear hlen herr hp hl hm
  rcases hx with rfl | ⟨rfl, rfl⟩
  · have PT : ∀ (W : World) (A1 : Option Addr) (c1 : Nat) (_ : Unit), Rd W W.heap.size A1 (bvs out) → m = out.length → m ≤ c1 → Calls Try.prog 12 #[.slice A1 m c1, .int .i64 l, .int .i64 size] W (NE W (n, 0)) := by
      intro W A1 c1 _ h1 h2 h3
      have h := take_any A1 out m c1 W.heap.size l size W h1 h2 (by omega) h3 (Nat.le_refl _)
      rw [HL.out, HK.out HP.out] at h
      rw [HL.out]
      exact h
    have HT := hid PT
    clear PT HK HP
    go_enter Try.func3, Try.ntmps3
    go_wp2_with (first
      | (go_at_call 8; refine (awake_any _).mono ?_; rintro e w1 ⟨rfl, hbe1⟩)
      | (go_at_call 9; refine (H1.out _ hbe1).mono ?_; rintro e w2 hbe0; obtain ⟨A1, c1, rfl, hown1, hbe2⟩ := hbe0.len (n := m) HM.out; clear hbe0)
      | (go_at_call 10; refine (H2.out _ (hbe1.trans (hbe2.mono hbe1.size))).mono ?_; rintro e w3 hbe0; obtain ⟨A2, c2, rfl, hown2, hbe3⟩ := hbe0.len (n := m) HM.out; clear hbe0)
      | (go_at_call 11; refine (same_self (own_rd (own_below hown1 hbe3)) (own_rd hown2) HM.out.symm HM.out.symm).mono ?_; rintro e w4 ⟨rfl, rfl⟩)
      | (go_at_call 12; refine (HT.out _ _ _ () (own_rd (own_below hown1 hbe3)) HM.out.symm (own_cap hown1)).mono ?_; rintro e w5 ⟨rfl, hbe5⟩))
    go_ret
    exact ⟨rfl, ((hbe1.trans (hbe2.mono hbe1.size)).trans (hbe3.mono (Nat.le_trans hbe1.size hbe2.size))).trans (hbe5.mono (Nat.le_trans hbe1.size (Nat.le_trans hbe2.size hbe3.size)))⟩
  · have hm0 : m = 0 := by have := HM.out; simpa using this.symm
    subst hm0
    go_enter Try.func3, Try.ntmps3
    go_wp2_with (first
      | (go_at_call 8; refine (awake_any _).mono ?_; rintro e w1 ⟨rfl, hbe1⟩)
      | (go_at_call 9; refine (H1.out _ hbe1).mono ?_; rintro e w2 hbe0; obtain ⟨A1, c1, rfl, hown1, hbe2⟩ := hbe0.len (n := 0) HM.out; clear hbe0)
      | (go_at_call 10; refine (H2.out _ (hbe1.trans (hbe2.mono hbe1.size))).mono ?_; rintro e w3 hbe0; obtain ⟨A2, c2, rfl, hown2, hbe3⟩ := hbe0.len (n := 0) HM.out; clear hbe0)
      | (go_at_call 11; refine (same_self (own_rd (own_below hown1 hbe3)) (own_rd hown2) HM.out.symm HM.out.symm).mono ?_; rintro e w4 ⟨rfl, rfl⟩))
    go_ret
    exact ⟨rfl, (hbe1.trans (hbe2.mono hbe1.size)).trans (hbe3.mono (Nat.le_trans hbe1.size hbe2.size))⟩
end Go.Proofs.Ytdnbcgpihedhgaa
