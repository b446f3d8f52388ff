/-
  The walk of the document's Right.
-/
import Derived.Test.YtknalgobndbngaaDoorHd
namespace Go.Proofs.YtknalgobndbngaaDoor
open Go.RowKit
set_option maxRecDepth 10000

theorem small_any (n : Int) (b : Bool) (w : World) (h : b = decide (0 ≤ n ∧ n ≤ 255)) : Calls Tryd.prog 45 #[.int .i64 n] w fun e w' => e = .returned (.bool b) ∧ w = w' := by
  subst h
  by_cases h0 : 0 ≤ n
  · by_cases h1 : n ≤ 255
    · go_enter Tryd.func45, Tryd.ntmps45
      go_wp2
      go_ret
      exact ⟨by simp [h0, h1], rfl⟩
    · go_enter Tryd.func45, Tryd.ntmps45
      go_wp2
      go_ret
      exact ⟨by simp [h1], rfl⟩
  · have h2 : decide (0 ≤ n) = false := by simp; omega
    go_enter Tryd.func45, Tryd.ntmps45
    go_wp2
    go_ret
    exact ⟨by simp, rfl⟩
theorem fits_any (n : Int) (b : Bool) (w : World) (h : b = decide (0 ≤ n ∧ n ≤ 72057594037927935)) : Calls Tryd.prog 46 #[.int .i64 n] w fun e w' => e = .returned (.bool b) ∧ w = w' := by
  subst h
  by_cases h0 : 0 ≤ n
  · by_cases h1 : n ≤ 72057594037927935
    · go_enter Tryd.func46, Tryd.ntmps46
      go_wp2
      go_ret
      exact ⟨by simp [h0, h1], rfl⟩
    · go_enter Tryd.func46, Tryd.ntmps46
      go_wp2
      go_ret
      exact ⟨by simp [h1], rfl⟩
  · have h2 : decide (0 ≤ n) = false := by simp; omega
    go_enter Tryd.func46, Tryd.ntmps46
    go_wp2
    go_ret
    exact ⟨by simp, rfl⟩

def sm (n : Int) : Bool := decide (0 ≤ n ∧ n ≤ 255)
def ft (n : Int) : Bool := decide (0 ≤ n ∧ n ≤ 72057594037927935)
def rightS (h : Hd) : Bool := sm h.kind && sm h.frm && sm h.oper && ft h.view && ft h.opn && ft h.commit && ft h.client && ft h.session && ft h.request && ft h.a && ft h.b

set_option maxHeartbeats 2000000 in
theorem rright_any (h : Hd) (w : World) : Calls Tryd.prog 35 #[h.val] w fun e w' => e = .returned (.bool (rightS h)) ∧ Below w.heap.size w w' := by
  obtain ⟨kind, frm, oper, view, opn, commit, client, session, request, a, b, parent⟩ := h
  show Calls Tryd.prog 35 #[.agg #[.int .i64 kind, .int .i64 frm, .int .i64 oper, .int .i64 view, .int .i64 opn, .int .i64 commit, .int .i64 client, .int .i64 session, .int .i64 request, .int .i64 a, .int .i64 b, .int .u64 (parent : Int)]] w fun e w' => e = .returned (.bool (sm kind && sm frm && sm oper && ft view && ft opn && ft commit && ft client && ft session && ft request && ft a && ft b)) ∧ Below w.heap.size w w'
  have H0 := hid (fun W => small_any kind (sm kind) W rfl)
  have H1 := hid (fun W => small_any frm (sm frm) W rfl)
  have H2 := hid (fun W => small_any oper (sm oper) W rfl)
  have H3 := hid (fun W => fits_any view (ft view) W rfl)
  have H4 := hid (fun W => fits_any opn (ft opn) W rfl)
  have H5 := hid (fun W => fits_any commit (ft commit) W rfl)
  have H6 := hid (fun W => fits_any client (ft client) W rfl)
  have H7 := hid (fun W => fits_any session (ft session) W rfl)
  have H8 := hid (fun W => fits_any request (ft request) W rfl)
  have H9 := hid (fun W => fits_any a (ft a) W rfl)
  have H10 := hid (fun W => fits_any b (ft b) W rfl)
  generalize sm kind = b0 at *
  generalize sm frm = b1 at *
  generalize sm oper = b2 at *
  generalize ft view = b3 at *
  generalize ft opn = b4 at *
  generalize ft commit = b5 at *
  generalize ft client = b6 at *
  generalize ft session = b7 at *
  generalize ft request = b8 at *
  generalize ft a = b9 at *
  generalize ft b = b10 at *
  go_enter Tryd.func35, Tryd.ntmps35
  go_wp2_with (first
    | (go_at_call_of 45 (Value.int .i64 kind); refine (H0.out _).mono ?_; rintro e w' ⟨rfl, rfl⟩)
    | (go_at_call_of 45 (Value.int .i64 frm); refine (H1.out _).mono ?_; rintro e w' ⟨rfl, rfl⟩)
    | (go_at_call_of 45 (Value.int .i64 oper); refine (H2.out _).mono ?_; rintro e w' ⟨rfl, rfl⟩)
    | (go_at_call_of 46 (Value.int .i64 view); refine (H3.out _).mono ?_; rintro e w' ⟨rfl, rfl⟩)
    | (go_at_call_of 46 (Value.int .i64 opn); refine (H4.out _).mono ?_; rintro e w' ⟨rfl, rfl⟩)
    | (go_at_call_of 46 (Value.int .i64 commit); refine (H5.out _).mono ?_; rintro e w' ⟨rfl, rfl⟩)
    | (go_at_call_of 46 (Value.int .i64 client); refine (H6.out _).mono ?_; rintro e w' ⟨rfl, rfl⟩)
    | (go_at_call_of 46 (Value.int .i64 session); refine (H7.out _).mono ?_; rintro e w' ⟨rfl, rfl⟩)
    | (go_at_call_of 46 (Value.int .i64 request); refine (H8.out _).mono ?_; rintro e w' ⟨rfl, rfl⟩)
    | (go_at_call_of 46 (Value.int .i64 a); refine (H9.out _).mono ?_; rintro e w' ⟨rfl, rfl⟩)
    | (go_at_call_of 46 (Value.int .i64 b); refine (H10.out _).mono ?_; rintro e w' ⟨rfl, rfl⟩))
  all_goals (go_ret; exact ⟨by clear H0 H1 H2 H3 H4 H5 H6 H7 H8 H9 H10; simp [*], (Below.refl _ _).alloc (Nat.le_refl _) _⟩)
end Go.Proofs.YtknalgobndbngaaDoor
