/-
  The walks of package ledger's Do and New.
-/
import Derived.Test.YtbofabmgfkploaaEl
namespace Go.Proofs.Ytbofabmgfkploaa
open Go.RowKit
set_option maxRecDepth 10000

section
variable (p : Nat) (fp : List Nat) (S : Lg) (s : ByteArray) (w : World) (hs : s.size ≤ 140737488355328) (h : Gk 63 p S fp w)
include hs h in
set_option maxHeartbeats 400000 in
theorem do_2 : Calls Try.prog 12 #[.pointer (some ⟨p, 0, none⟩), .int .i64 2, .string s] w fun e w' => e = .returned (.string ⟨(eachL mka S (takL 9 decA (sb s))).2.toArray⟩) ∧ Gw 63 p w fp (eachL mka S (takL 9 decA (sb s))).1 w' := by
  have HE := hid (each_mka p fp S s w hs h)
  generalize eachL mka S (takL 9 decA (sb s)) = r at *
  obtain ⟨SN, bs⟩ := r
  clear hs h
  go_enter Try.func12, Try.ntmps12
  go_wp2_with (go_at_call 26; refine HE.out.mono ?_; rintro e w1 ⟨rfl, hg1⟩)
  go_ret
  exact ⟨rfl, hg1⟩
include hs h in
set_option maxHeartbeats 400000 in
theorem do_3 : Calls Try.prog 12 #[.pointer (some ⟨p, 0, none⟩), .int .i64 3, .string s] w fun e w' => e = .returned (.string ⟨(eachL mkt S (takL 32 decT (sb s))).2.toArray⟩) ∧ Gw 63 p w fp (eachL mkt S (takL 32 decT (sb s))).1 w' := by
  have HE := hid (each_mkt p fp S s w hs h)
  generalize eachL mkt S (takL 32 decT (sb s)) = r at *
  obtain ⟨SN, bs⟩ := r
  clear hs h
  go_enter Try.func12, Try.ntmps12
  go_wp2_with (go_at_call 29; refine HE.out.mono ?_; rintro e w1 ⟨rfl, hg1⟩)
  go_ret
  exact ⟨rfl, hg1⟩
include hs h in
set_option maxHeartbeats 400000 in
theorem do_4 : Calls Try.prog 12 #[.pointer (some ⟨p, 0, none⟩), .int .i64 4, .string s] w fun e w' => e = .returned (.string ⟨(eachL tela S (takL 8 decI (sb s))).2.toArray⟩) ∧ Gw 63 p w fp (eachL tela S (takL 8 decI (sb s))).1 w' := by
  have HE := hid (each_tela p fp S s w hs h)
  generalize eachL tela S (takL 8 decI (sb s)) = r at *
  obtain ⟨SN, bs⟩ := r
  clear hs h
  go_enter Try.func12, Try.ntmps12
  go_wp2_with (go_at_call 32; refine HE.out.mono ?_; rintro e w1 ⟨rfl, hg1⟩)
  go_ret
  exact ⟨rfl, hg1⟩
include hs h in
set_option maxHeartbeats 400000 in
theorem do_5 : Calls Try.prog 12 #[.pointer (some ⟨p, 0, none⟩), .int .i64 5, .string s] w fun e w' => e = .returned (.string ⟨(eachL telt S (takL 8 decI (sb s))).2.toArray⟩) ∧ Gw 63 p w fp (eachL telt S (takL 8 decI (sb s))).1 w' := by
  have HE := hid (each_telt p fp S s w hs h)
  generalize eachL telt S (takL 8 decI (sb s)) = r at *
  obtain ⟨SN, bs⟩ := r
  clear hs h
  go_enter Try.func12, Try.ntmps12
  go_wp2_with (go_at_call 32; refine HE.out.mono ?_; rintro e w1 ⟨rfl, hg1⟩)
  go_ret
  exact ⟨rfl, hg1⟩
include h in
set_option maxHeartbeats 400000 in
theorem do_6 (op : Int) (h2 : ¬ op = 2) (h3 : ¬ op = 3) (h4 : ¬ op = 4) (h5 : ¬ op = 5) : Calls Try.prog 12 #[.pointer (some ⟨p, 0, none⟩), .int .i64 op, .string s] w fun e w' => e = .returned (.string ⟨[1].toArray⟩) ∧ Gw 63 p w fp S w' := by
  have HG := hid (Gw.start h)
  have e2 : (op == 2) = false := beq_eq_false_iff_ne.2 h2
  have e3 : (op == 3) = false := beq_eq_false_iff_ne.2 h3
  have e4 : (op == 4) = false := beq_eq_false_iff_ne.2 h4
  have e5 : (op == 5) = false := beq_eq_false_iff_ne.2 h5
  clear h h2 h3 h4 h5
  go_enter Try.func12, Try.ntmps12
  go_wp2_with fail
  go_ret
  exact ⟨rfl, HG.out⟩
include hs h in
theorem do_any (op : Int) : Calls Try.prog 12 #[.pointer (some ⟨p, 0, none⟩), .int .i64 op, .string s] w fun e w' => e = .returned (.string ⟨(S.doo op (sb s)).2.toArray⟩) ∧ Gw 63 p w fp (S.doo op (sb s)).1 w' := by
  unfold Lg.doo
  by_cases h2 : op = 2
  · rw [if_pos h2]; subst h2; exact do_2 p fp S s w hs h
  rw [if_neg h2]
  by_cases h3 : op = 3
  · rw [if_pos h3]; subst h3; exact do_3 p fp S s w hs h
  rw [if_neg h3]
  by_cases h4 : op = 4
  · rw [if_pos h4]; subst h4; exact do_4 p fp S s w hs h
  rw [if_neg h4]
  by_cases h5 : op = 5
  · rw [if_pos h5]; subst h5; exact do_5 p fp S s w hs h
  rw [if_neg h5]
  exact do_6 p fp S s w h op h2 h3 h4 h5
end
/-- a new ledger, all of it in new memory -/
def NG (X : Nat) (w : World) (S : Lg) (v : Nat → Value) (e : Ending) (w' : World) : Prop := ∃ p fp, e = .returned (v p) ∧ Gk X p S fp w' ∧ (∀ b ∈ fp, w.heap.size ≤ b) ∧ Below w.heap.size w w'
theorem nil_has {w : World} {X p : Nat} (hr : Row w p X [.slice none 0 0, .slice none 0 0]) (ty : X ≠ 45 ∧ X ≠ 43) : HasG w X p (.slice none 0 0) (.slice none 0 0) Lg.nil :=
  ⟨hr, World.ownsRow_nil _ _ _ _, World.ownsRow_nil _ _ _ _, Lg.nil_wf, ty⟩
set_option maxHeartbeats 400000 in
theorem new_any (w : World) : Calls Try.prog 11 #[] w (NG 63 w Lg.nil (fun p => .pointer (some ⟨p, 0, none⟩))) := by
  go_enter Try.func11, Try.ntmps11
  go_wp2_with fail
  go_ret
  refine ⟨w.heap.size, _, rfl, ⟨_, _, rfl, nil_has (Row.new w _ #[.slice none 0 0, .slice none 0 0]) (by decide)⟩, ?_, (Below.refl _ _).alloc (Nat.le_refl _) _⟩
  intro b hb
  simp [fpG, Value.ownBlock] at hb
  omega
end Go.Proofs.Ytbofabmgfkploaa
