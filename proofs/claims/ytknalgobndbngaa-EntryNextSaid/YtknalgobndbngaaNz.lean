/-
  EntryNext, whole.
-/
import Derived.Test.YtknalgobndbngaaNy
namespace Go.Proofs.Ytknalgobndbngaa
open Go.RowKit
set_option maxRecDepth 10000

theorem fol_mark {m o : Mk} {e : En} (h1 : Fol m e) (h2 : Fol o e) : o = m := by
  obtain ⟨_, a1, a2, a3⟩ := h1
  obtain ⟨_, b1, b2, b3⟩ := h2
  obtain ⟨mo, mv, ms⟩ := m
  obtain ⟨oo, ov, os⟩ := o
  simp only at a1 a2 a3 b1 b2 b3
  simp only [Mk.mk.injEq]
  omega
theorem next_law (m o : Mk) (e : En) (w : World) : Calls Try.prog 3 #[m.val, o.val, e.val] w (Yes w) := by
  have HR := hid (fun W => eright_any (nextS m e) W)
  have HF := hid (fun W => efol_any m (nextS m e) W)
  have HO := hid (fun W => efol_any o (nextS m e) W)
  cases hl : decide (5000 < (e.body.size : Int)) with
  | true =>
    obtain ⟨view, opn, under, parent, client, session, request, oper, body⟩ := e
    obtain ⟨mo, mv, ms⟩ := m
    obtain ⟨oo, ov, os⟩ := o
    exact nx_long view opn under parent client session request oper body mo mv ms oo ov os w hl
  | false =>
    have hs : e.body.size ≤ 281474976710656 := by
      have := of_decide_eq_false hl
      omega
    have HN := hid (fun W => next_any m e W hs)
    by_cases hm : 0 ≤ m.opn ∧ m.opn ≤ 72057594037927934
    · have hn : nextS m e = ⟨e.view, m.opn + 1, m.view, m.sum, e.client, e.session, e.request, e.oper, e.body⟩ := by unfold nextS; rw [if_pos hm]
      by_cases hR : Rt (nextS m e)
      · have hF : Fol m (nextS m e) := ⟨hR, by rw [hn]; show m.opn + 1 - 1 = m.opn; omega, by rw [hn], by rw [hn]⟩
        by_cases hq : o = m
        · rw [decide_eq_true hR] at HR
          rw [decide_eq_true hF] at HF
          rw [hn] at HN HR HF
          obtain ⟨view, opn, under, parent, client, session, request, oper, body⟩ := e
          obtain ⟨mo, mv, ms⟩ := m
          obtain ⟨oo, ov, os⟩ := o
          exact nx_yes_ttt view opn under parent client session request oper body mo mv ms oo ov os w hm.1 hm.2 hl HN HR HF (hid (decide_eq_true hq))
        · have hO : ¬ Fol o (nextS m e) := fun h => hq (fol_mark hF h)
          rw [decide_eq_true hR] at HR
          rw [decide_eq_true hF] at HF
          rw [decide_eq_false hO] at HO
          rw [hn] at HN HR HF HO
          obtain ⟨view, opn, under, parent, client, session, request, oper, body⟩ := e
          obtain ⟨mo, mv, ms⟩ := m
          obtain ⟨oo, ov, os⟩ := o
          exact nx_yes_tff view opn under parent client session request oper body mo mv ms oo ov os w hm.1 hm.2 hl HN HR HF HO (hid (decide_eq_false hq))
      · have hO : ¬ Fol o (nextS m e) := fun h => hR h.1
        rw [decide_eq_false hR] at HR
        rw [decide_eq_false hO] at HO
        rw [hn] at HN HR HO
        by_cases hq : o = m
        · obtain ⟨view, opn, under, parent, client, session, request, oper, body⟩ := e
          obtain ⟨mo, mv, ms⟩ := m
          obtain ⟨oo, ov, os⟩ := o
          exact nx_yes_fft view opn under parent client session request oper body mo mv ms oo ov os w hm.1 hm.2 hl HN HR (hid (decide_eq_true hq))
        · obtain ⟨view, opn, under, parent, client, session, request, oper, body⟩ := e
          obtain ⟨mo, mv, ms⟩ := m
          obtain ⟨oo, ov, os⟩ := o
          exact nx_yes_fff view opn under parent client session request oper body mo mv ms oo ov os w hm.1 hm.2 hl HN HR HO (hid (decide_eq_false hq))
    · have hn : nextS m e = ⟨e.view, e.opn, m.view, m.sum, e.client, e.session, e.request, e.oper, e.body⟩ := by unfold nextS; rw [if_neg hm]
      have hm2 : m.opn < 0 ∨ 72057594037927934 < m.opn := by omega
      have hF : ¬ Fol m (nextS m e) := by
        intro h
        obtain ⟨⟨h1, _⟩, h2, _⟩ := h
        omega
      rw [decide_eq_false hF] at HF
      by_cases hR : Rt (nextS m e)
      · rw [decide_eq_true hR] at HR
        by_cases hq : o = m
        · rw [hn] at HN HR
          obtain ⟨view, opn, under, parent, client, session, request, oper, body⟩ := e
          obtain ⟨mo, mv, ms⟩ := m
          obtain ⟨oo, ov, os⟩ := o
          exact nx_no_tft view opn under parent client session request oper body mo mv ms oo ov os w hm2 hl HN HR (hid (decide_eq_true hq))
        · by_cases hO : Fol o (nextS m e)
          · rw [decide_eq_true hO] at HO
            rw [hn] at HN HR HF HO
            obtain ⟨view, opn, under, parent, client, session, request, oper, body⟩ := e
            obtain ⟨mo, mv, ms⟩ := m
            obtain ⟨oo, ov, os⟩ := o
            exact nx_no_ttf view opn under parent client session request oper body mo mv ms oo ov os w hm2 hl HN HR HF HO (hid (decide_eq_false hq))
          · rw [decide_eq_false hO] at HO
            rw [hn] at HN HR HO
            obtain ⟨view, opn, under, parent, client, session, request, oper, body⟩ := e
            obtain ⟨mo, mv, ms⟩ := m
            obtain ⟨oo, ov, os⟩ := o
            exact nx_no_tff view opn under parent client session request oper body mo mv ms oo ov os w hm2 hl HN HR HO (hid (decide_eq_false hq))
      · have hO : ¬ Fol o (nextS m e) := fun h => hR h.1
        rw [decide_eq_false hR] at HR
        rw [decide_eq_false hO] at HO
        rw [hn] at HN HR HO
        by_cases hq : o = m
        · obtain ⟨view, opn, under, parent, client, session, request, oper, body⟩ := e
          obtain ⟨mo, mv, ms⟩ := m
          obtain ⟨oo, ov, os⟩ := o
          exact nx_no_fft view opn under parent client session request oper body mo mv ms oo ov os w hm2 hl HN HR (hid (decide_eq_true hq))
        · obtain ⟨view, opn, under, parent, client, session, request, oper, body⟩ := e
          obtain ⟨mo, mv, ms⟩ := m
          obtain ⟨oo, ov, os⟩ := o
          exact nx_no_fff view opn under parent client session request oper body mo mv ms oo ov os w hm2 hl HN HR HO (hid (decide_eq_false hq))
end Go.Proofs.Ytknalgobndbngaa
