/-
  The walks of the document's fits, Right.
-/
import Derived.Test.YtknalgobndbngaaDoorEn
namespace Go.Proofs.YtknalgobndbngaaDoor
open Go.RowKit
set_option maxRecDepth 10000

def f9 (n l : Int) : Bool := decide (l ≤ n ∧ n ≤ 72057594037927935)
theorem fits9_any (n l : Int) (b : Bool) (w : World) (h : b = f9 n l) : Calls Tryd.prog 24 #[.int .i64 n, .int .i64 l] w fun e w' => e = .returned (.bool b) ∧ w = w' := by
  subst h
  unfold f9
  by_cases h0 : l ≤ n
  · by_cases h1 : n ≤ 72057594037927935
    · go_enter Tryd.func24, Tryd.ntmps24
      go_wp2
      go_ret
      exact ⟨by simp [h0, h1], rfl⟩
    · go_enter Tryd.func24, Tryd.ntmps24
      go_wp2
      go_ret
      exact ⟨by simp [h1], rfl⟩
  · have h2 : decide (l ≤ n) = false := by simp; omega
    go_enter Tryd.func24, Tryd.ntmps24
    go_wp2
    go_ret
    exact ⟨by first | (simp; done) | (simp; omega), rfl⟩

theorem rt9_iff (e : En) : decide (Rt e) = (f9 e.opn 1 && f9 e.client 1 && f9 e.view 0 && f9 e.under 0 && f9 e.session 0 && f9 e.request 0 && decide (e.under ≤ e.view) && decide (1 ≤ e.oper) && decide (e.oper ≤ 255) && decide ((e.body.size : Int) ≤ 200)) := by
  rw [Bool.eq_iff_iff, decide_eq_true_iff]
  unfold Rt f9
  simp only [Bool.and_eq_true, decide_eq_true_eq]
  constructor
  · rintro ⟨h1, h2, h3, h4, h5, h6, ⟨h7, h8⟩, h9, h10⟩
    exact ⟨⟨⟨⟨⟨⟨⟨⟨⟨h1, h2⟩, h3⟩, h4⟩, h5⟩, h6⟩, h9⟩, h7⟩, h8⟩, h10⟩
  · rintro ⟨⟨⟨⟨⟨⟨⟨⟨⟨h1, h2⟩, h3⟩, h4⟩, h5⟩, h6⟩, h9⟩, h7⟩, h8⟩, h10⟩
    exact ⟨h1, h2, h3, h4, h5, h6, ⟨h7, h8⟩, h9, h10⟩

set_option maxHeartbeats 2000000 in
theorem rright9_any (e : En) (w : World) : Calls Tryd.prog 12 #[e.val] w (VE w (.bool (decide (Rt e)))) := by
  rw [rt9_iff]
  obtain ⟨view, opn, under, parent, client, session, request, oper, body⟩ := e
  show Calls Tryd.prog 12 #[.agg #[.int .i64 view, .int .i64 opn, .int .i64 under, .int .u64 (parent : Int), .int .i64 client, .int .i64 session, .int .i64 request, .int .i64 oper, .string body]] w (VE w (.bool (f9 opn 1 && f9 client 1 && f9 view 0 && f9 under 0 && f9 session 0 && f9 request 0 && decide (under ≤ view) && decide (1 ≤ oper) && decide (oper ≤ 255) && decide ((body.size : Int) ≤ 200))))
  have H1 := hid (fun W => fits9_any opn 1 _ W rfl)
  have H2 := hid (fun W => fits9_any client 1 _ W rfl)
  have H3 := hid (fun W => fits9_any view 0 _ W rfl)
  have H4 := hid (fun W => fits9_any under 0 _ W rfl)
  have H5 := hid (fun W => fits9_any session 0 _ W rfl)
  have H6 := hid (fun W => fits9_any request 0 _ W rfl)
  generalize f9 opn 1 = b1 at *
  generalize f9 client 1 = b2 at *
  generalize f9 view 0 = b3 at *
  generalize f9 under 0 = b4 at *
  generalize f9 session 0 = b5 at *
  generalize f9 request 0 = b6 at *
  go_enter Tryd.func12, Tryd.ntmps12
  go_wp2_with (first
    | (go_at_call 24; refine (H1.out _).mono ?_; rintro e w' ⟨rfl, rfl⟩; clear H1)
    | (go_at_call 24; refine (H2.out _).mono ?_; rintro e w' ⟨rfl, rfl⟩; clear H2)
    | (go_at_call 24; refine (H3.out _).mono ?_; rintro e w' ⟨rfl, rfl⟩; clear H3)
    | (go_at_call 24; refine (H4.out _).mono ?_; rintro e w' ⟨rfl, rfl⟩; clear H4)
    | (go_at_call 24; refine (H5.out _).mono ?_; rintro e w' ⟨rfl, rfl⟩; clear H5)
    | (go_at_call 24; refine (H6.out _).mono ?_; rintro e w' ⟨rfl, rfl⟩; clear H6))
  all_goals (go_ret; refine ⟨by first | (simp [*]; done) | (cases b6 <;> simp_all; done) | (cases b6 <;> simp_all <;> omega), ?_⟩; exact (Below.refl _ _).alloc (Nat.le_refl _) _)
end Go.Proofs.YtknalgobndbngaaDoor
