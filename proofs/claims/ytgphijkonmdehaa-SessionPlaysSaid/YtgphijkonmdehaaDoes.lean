/-
  The walk of the laws' does: a call on the table.
-/
import Derived.Test.YtgphijkonmdehaaNil
namespace Go.Proofs.Ytgphijkonmdehaa
open Go.RowKit
set_option maxRecDepth 10000

section
variable (p : Nat) (fp : List Nat) (T : List Ss) (k c s r o : Int) (t : ByteArray) (w : World) (h : Gk 54 p T fp w)
include h in
set_option maxHeartbeats 400000 in
theorem does_1 (hk : k = 1) : Calls Try.prog 10 #[.pointer (some ⟨p, 0, none⟩), .agg #[.int .i64 k, .int .i64 c, .int .i64 s, .int .i64 r, .int .i64 o, .string t]] w fun e w' => e = .returned (.tuple #[.int .i64 (opnL T c o), .int .i64 (opnE T c o)]) ∧ Gw 54 p w fp (opn T c o) w' := by
  have HG := hid ((Gw.start h).alloc (.cells #[.int .i64 k, .int .i64 c, .int .i64 s, .int .i64 r, .int .i64 o, .string t] 34))
  have HC := hid (fun fq W (hk : Gk 54 p T fq W) => opn_any p fq T c o W hk)
  generalize opnL T c o = v1 at *
  generalize opnE T c o = v2 at *
  generalize opn T c o = U at *
  clear h
  subst hk
  go_enter Try.func10, Try.ntmps10
  go_wp2_with (go_at_call 18; refine (HG.out.call (fun fq hk => HC.out fq _ hk)).mono ?_; rintro e w2 ⟨rfl, hg⟩)
  go_ret2
  exact ⟨rfl, hg⟩
include h in
set_option maxHeartbeats 400000 in
theorem does_2 (hk : k = 2) : Calls Try.prog 10 #[.pointer (some ⟨p, 0, none⟩), .agg #[.int .i64 k, .int .i64 c, .int .i64 s, .int .i64 r, .int .i64 o, .string t]] w fun e w' => e = .returned (.tuple #[.int .i64 (0), .int .i64 (notE T c r o t)]) ∧ Gw 54 p w fp (note T c r o t) w' := by
  have HG := hid ((Gw.start h).alloc (.cells #[.int .i64 k, .int .i64 c, .int .i64 s, .int .i64 r, .int .i64 o, .string t] 34))
  have HC := hid (fun fq W (hk : Gk 54 p T fq W) => not_any p fq T c r o t W hk)
  generalize notE T c r o t = v2 at *
  generalize note T c r o t = U at *
  clear h
  subst hk
  go_enter Try.func10, Try.ntmps10
  go_wp2_with (go_at_call 21; refine (HG.out.call (fun fq hk => HC.out fq _ hk)).mono ?_; rintro e w2 ⟨rfl, hg⟩)
  go_ret2
  exact ⟨rfl, hg⟩
include h in
set_option maxHeartbeats 400000 in
theorem does_3 (hk1 : ¬ k = 1) (hk2 : ¬ k = 2) : Calls Try.prog 10 #[.pointer (some ⟨p, 0, none⟩), .agg #[.int .i64 k, .int .i64 c, .int .i64 s, .int .i64 r, .int .i64 o, .string t]] w fun e w' => e = .returned (.tuple #[.int .i64 (ver T c s r), .int .i64 (0)]) ∧ Gw 54 p w fp (T) w' := by
  have HG := hid ((Gw.start h).alloc (.cells #[.int .i64 k, .int .i64 c, .int .i64 s, .int .i64 r, .int .i64 o, .string t] 34))
  have HC := hid (fun fq W (hk : Gk 54 p T fq W) => (ver_any p fq T c s r W hk))
  generalize ver T c s r = v1 at *
  clear h
  have q1 : (k == 1) = false := beq_eq_false_iff_ne.2 hk1
  have q2 : (k == 2) = false := beq_eq_false_iff_ne.2 hk2
  clear hk1 hk2
  go_enter Try.func10, Try.ntmps10
  go_wp2_with (go_at_call 20; refine (HG.out.call (fun fq hk => (HC.out fq _ hk).mono (fun e w' hh => ⟨hh.1, (Gw.start hk).below hh.2⟩))).mono ?_; rintro e w2 ⟨rfl, hg⟩)
  go_ret2
  exact ⟨rfl, hg⟩
end
theorem does_any (p : Nat) (fp : List Nat) (T : List Ss) (x : Ab) (w : World) (h : Gk 54 p T fp w) : Calls Try.prog 10 #[.pointer (some ⟨p, 0, none⟩), .agg x.cells.toArray] w fun e w' => e = .returned (.tuple #[.int .i64 (doV T x), .int .i64 (doE T x)]) ∧ Gw 54 p w fp (doo T x) w' := by
  obtain ⟨k, c, s, r, o, t⟩ := x
  unfold doV doE doo
  by_cases h1 : k = 1
  · simp only [if_pos h1]
    exact does_1 p fp T k c s r o t w h h1
  · by_cases h2 : k = 2
    · simp only [if_neg h1, if_pos h2]
      exact does_2 p fp T k c s r o t w h h2
    · simp only [if_neg h1, if_neg h2]
      exact does_3 p fp T k c s r o t w h h1 h2
end Go.Proofs.Ytgphijkonmdehaa
