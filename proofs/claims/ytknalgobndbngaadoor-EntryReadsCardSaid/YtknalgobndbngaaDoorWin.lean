/-
  The walks of package entry's within, Right.
-/
import Derived.Test.YtknalgobndbngaaDoorEn
namespace Go.Proofs.YtknalgobndbngaaDoor
open Go.RowKit
set_option maxRecDepth 10000

theorem ivs_len (l : List Int) : (ivs l).length = l.length := by simp [ivs]
set_option maxHeartbeats 1000000 in
theorem within_any (lo hi : Int) (A : Option Addr) (c B : Nat) (l : List Int) (w : World) (hr : Rd w B A (ivs l)) (hl : l.length ≤ 1000) (hpos : 0 < l.length) (hc : l.length ≤ c) :
    Calls Tryd.prog 23 #[.int .i64 lo, .int .i64 hi, .slice A l.length c] w fun e w' => e = .returned (.bool (wi lo hi l)) ∧ w = w' := by
  obtain ⟨g, o, rfl, -, hcell⟩ := hr (by intro e; have := ivs_len l; rw [e] at this; simp at this; omega)
  have HC : Hid (∀ k, (h : k < l.length) → w.cell? ⟨g, o + k, none⟩ = some (.int .i64 l[k])) := hid fun k h => hcell k _ (by simp [ivs, h])
  obtain ⟨n, hn⟩ : ∃ n, n = l.length := ⟨_, rfl⟩
  rw [← hn] at hl hpos hc ⊢
  have HN := hid hn
  clear hr hcell hn
  go_enter Tryd.func23, Tryd.ntmps23
  go_wp2_with fail
  go_loop [11] (fun i => ∃ k : Nat, k ≤ n ∧ i = .int .i64 k ∧ Hid (wi lo hi (l.take k) = true)) (fun i => n - (intOf i).toNat)
  case atStart => exact ⟨0, by omega, rfl, hid rfl⟩
  case round =>
    obtain ⟨k, hk, rfl, hpast⟩ := hrel
    by_cases hlt : k < n
    · have hkl : k < l.length := by rw [← HN.out]; exact hlt
      have hce := HC.out k hkl
      have HS := hid (wi_snoc lo hi l k hkl hpast.out)
      have HX := hid (wi_not lo hi l k hkl)
      generalize l[k] = x at hce HS HX
      by_cases h1 : x < lo
      · go_wp2_with fail
        go_ret
        rw [HX.out (by omega)]
        exact ⟨rfl, rfl⟩
      · by_cases h2 : hi < x
        · go_wp2_with fail
          go_ret
          rw [HX.out (by omega)]
          exact ⟨rfl, rfl⟩
        · go_wp2_with fail
          go_round
          case rel => exact ⟨k + 1, by omega, by go_num, hid (HS.out (by omega))⟩
          case measure => simp [intOf]; omega
    · obtain rfl : k = n := by omega
      go_wp2_with fail
      go_ret
      have hy := hpast.out
      rw [List.take_of_length_le (by rw [HN.out]; exact Nat.le_refl _)] at hy
      rw [hy]
      exact ⟨rfl, rfl⟩

/-- over a list that was just laid -/
theorem wiA (lo hi : Int) (l : List Int) (cs : Array Value) (n : Nat) (hl : l.length ≤ 1000) (hpos : 0 < l.length) (hcs : cs.toList = ivs l) (hn : l.length = n) (W : World) (g : Nat) (hg : g = W.heap.size) :
    Calls Tryd.prog 23 #[.int .i64 lo, .int .i64 hi, .slice (some ⟨g, 0, none⟩) n n] (W.alloc (.cells cs 3)) fun e w' => e = .returned (.bool (wi lo hi l)) ∧ (W.alloc (.cells cs 3)) = w' := by
  subst hg hn
  have := Row.new W 3 cs
  rw [hcs] at this
  exact within_any lo hi _ _ (W.heap.size + 1) l _ (this.rd (by omega)) hl hpos (Nat.le_refl _)

theorem rt_iff (e : En) : Rt e ↔ (wi 1 72057594037927935 [e.opn, e.client] = true ∧ wi 0 72057594037927935 [e.view, e.under, e.session, e.request] = true ∧ wi 1 255 [e.oper] = true ∧ e.under ≤ e.view ∧ (e.body.size : Int) ≤ 200) := by
  unfold Rt wi
  simp
  constructor
  · rintro ⟨⟨a1, a2⟩, ⟨b1, b2⟩, ⟨c1, c2⟩, ⟨d1, d2⟩, ⟨e1, e2⟩, ⟨f1, f2⟩, ⟨g1, g2⟩, h1, h2⟩
    exact ⟨⟨⟨a1, a2⟩, b1, b2⟩, ⟨⟨c1, c2⟩, ⟨d1, d2⟩, ⟨e1, e2⟩, f1, f2⟩, ⟨g1, g2⟩, h1, h2⟩
  · rintro ⟨⟨⟨a1, a2⟩, b1, b2⟩, ⟨⟨c1, c2⟩, ⟨d1, d2⟩, ⟨e1, e2⟩, f1, f2⟩, ⟨g1, g2⟩, h1, h2⟩
    exact ⟨⟨a1, a2⟩, ⟨b1, b2⟩, ⟨c1, c2⟩, ⟨d1, d2⟩, ⟨e1, e2⟩, ⟨f1, f2⟩, ⟨g1, g2⟩, h1, h2⟩

set_option maxHeartbeats 2000000 in
theorem eright_any (e : En) (w : World) : Calls Tryd.prog 11 #[e.val] w (VE w (.bool (decide (Rt e)))) := by
  have hb : decide (Rt e) = (wi 1 72057594037927935 [e.opn, e.client] && wi 0 72057594037927935 [e.view, e.under, e.session, e.request] && wi 1 255 [e.oper] && decide (e.under ≤ e.view) && decide ((e.body.size : Int) ≤ 200)) := by
    rw [Bool.eq_iff_iff, decide_eq_true_iff, rt_iff e]
    simp only [Bool.and_eq_true, decide_eq_true_eq, and_assoc]
  rw [hb]
  clear hb
  have HW1 := hid (wiA 1 72057594037927935 [e.opn, e.client] #[.int .i64 e.opn, .int .i64 e.client] 2 (by simp) (by simp) rfl rfl)
  have HW2 := hid (wiA 0 72057594037927935 [e.view, e.under, e.session, e.request] #[.int .i64 e.view, .int .i64 e.under, .int .i64 e.session, .int .i64 e.request] 4 (by simp) (by simp) rfl rfl)
  have HW3 := hid (wiA 1 255 [e.oper] #[.int .i64 e.oper] 1 (by simp) (by simp) rfl rfl)
  generalize wi 1 72057594037927935 [e.opn, e.client] = b1 at *
  generalize wi 0 72057594037927935 [e.view, e.under, e.session, e.request] = b2 at *
  generalize wi 1 255 [e.oper] = b3 at *
  obtain ⟨view, opn, under, parent, client, session, request, oper, body⟩ := e
  show Calls Tryd.prog 11 #[.agg #[.int .i64 view, .int .i64 opn, .int .i64 under, .int .u64 (parent : Int), .int .i64 client, .int .i64 session, .int .i64 request, .int .i64 oper, .string body]] w (VE w (.bool (b1 && b2 && b3 && decide (under ≤ view) && decide ((body.size : Int) ≤ 200))))
  go_enter Tryd.func11, Tryd.ntmps11
  go_wp2_with (first
    | (go_at_call 23; refine (HW1.out _ _ (by simp)).mono ?_; rintro e w' ⟨rfl, rfl⟩; clear HW1)
    | (go_at_call 23; refine (HW2.out _ _ (by simp)).mono ?_; rintro e w' ⟨rfl, rfl⟩; clear HW2)
    | (go_at_call 23; refine (HW3.out _ _ (by simp)).mono ?_; rintro e w' ⟨rfl, rfl⟩; clear HW3))
  all_goals (go_ret; refine ⟨by simp [*] <;> omega, ?_⟩; repeat' first | exact Below.refl _ _ | refine Below.alloc ?_ (by simp <;> omega) _)
end Go.Proofs.YtknalgobndbngaaDoor
