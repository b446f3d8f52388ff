/-
  The walks of the document's Find and Do.
-/
import Derived.Test.YtbofabmgfkploaaRmv
import Derived.Test.YtbofabmgfkploaaWholer
import Derived.Test.YtbofabmgfkploaaRputt
import Derived.Test.YtbofabmgfkploaaRtaka
import Derived.Test.YtbofabmgfkploaaRtakt
import Derived.Test.YtbofabmgfkploaaRtaki
namespace Go.Proofs.Ytbofabmgfkploaa
open Go.RowKit
set_option maxRecDepth 10000

theorem rt_one {w : World} {B g o : Nat} {l : List Tr} (h : Rd w B (some ⟨g, o, none⟩) (rows Tr.cells l)) (k : Nat) (hk : k < l.length) : Rd w B (some ⟨g, o + k * 4, none⟩) (rows Tr.cells [l[k]]) := by
  rw [rows1]
  intro _
  obtain ⟨g', o', e, hg, _⟩ := h (by intro e; have := rows_len (C := Tr.cells) Tr.len l; rw [e] at this; simp at this; omega)
  cases e
  exact ⟨g, o + k * 4, rfl, hg, fun j u hu => range_of h Tr.len hk j u hu⟩
section
variable (p : Nat) (va vt : Value) (S : Lg) (id : Nat) (w : World) (h : HasG w 30 p va vt S)
include h
set_option maxHeartbeats 400000 in
theorem rfind_4n (hno : ¬ S.fa id < S.A.length) : Calls Try.prog 42 #[.pointer (some ⟨p, 0, none⟩), .int .i64 4, .int .u64 (id : Int)] w (SE w [0]) := by
  have HA := hid (ra_any p va vt S id w h)
  rw [idxa_no hno] at HA
  have HB : Hid (∀ W, Calls Try.prog 36 #[.int .i64 0] W (SE W [0])) := hid fun W => rbyte_any 0 W (by decide)
  clear h hno
  go_enter Try.func42, Try.ntmps42
  go_wp2_with (first
    | (go_at_call 82; refine HA.out.mono ?_; rintro e w1 ⟨rfl, rfl⟩)
    | (go_at_call 36; refine (HB.out _).mono ?_; rintro e w2 ⟨rfl, hb⟩))
  go_ret
  exact ⟨rfl, hb⟩
set_option maxHeartbeats 1000000 in
theorem rfind_4y (hk : S.fa id < S.A.length) : Calls Try.prog 42 #[.pointer (some ⟨p, 0, none⟩), .int .i64 4, .int .u64 (id : Int)] w (SE w (1 :: acB (S.ac (S.fa id)))) := by
  rw [S.ac_get _ hk]
  have HA := hid (ra_any p va vt S id w h)
  rw [idxa_yes hk] at HA
  have HB : Hid (∀ W, Calls Try.prog 36 #[.int .i64 1] W (SE W [1])) := hid fun W => rbyte_any 1 W (by decide)
  obtain ⟨g, c, ev, -, hg⟩ := own_some h.accs (by omega : 0 < S.A.length)
  have hc0 := h.c0
  rw [ev] at hc0
  have hrg : w.rangeAt g (S.fa id * 4) (Ac.cells (S.A[S.fa id]'hk)) := fun j v hv => by
    have hj : j < 4 := by
      have := (List.getElem?_eq_some_iff.1 hv).1
      rw [Ac.len] at this
      exact this
    rw [h.cellA hg _ j hk hj]
    exact hv
  have HP := hid (fun W => rpw_any (S.A[S.fa id]'hk) (h.wf.oa _ (List.getElem_mem hk)).1 W)
  have hl := acB_le (S.A[S.fa id]'hk)
  unfold acB at hl ⊢
  generalize wholeB (S.A[S.fa id]'hk) = r at *
  obtain ⟨bs, er⟩ := r
  have HC4 : Hid ((Ac.cells (S.A[S.fa id]'hk)).length = 4) := hid (Ac.len _)
  have hkn : (S.fa id : Int) < (S.A.length : Int) := by omega
  have hk0 : (0 : Int) ≤ (S.fa id : Int) := by omega
  generalize Ac.cells (S.A[S.fa id]'hk) = X at *
  generalize S.fa id = k at *
  generalize S.A.length = n at *
  have HRG := hid hrg
  have HZ := hid acSize
  have hq : ¬ (9223372036854775807 < 1 + bs.length) := by simp only at hl; omega
  have hq2 : ¬ (9223372036854775807 < bs.length + 1) := by simp only at hl; omega
  show Calls _ _ _ _ (SE w (1 :: bs))
  clear h hk ev hg hrg hl
  go_enter Try.func42, Try.ntmps42
  go_wp2_with (first
    | (go_at_call 82; refine HA.out.mono ?_; rintro e w1 ⟨rfl, rfl⟩)
    | (refine wpList_load_mid rfl 45 (.tmp 27) rfl g (k * 4) rfl X _ HRG.out Try.underlying45 rfl (by rw [HC4.out]; exact HZ.out) ?_)
    | (go_at_call 49; refine (HP.out _).mono ?_; rintro e w1 ⟨rfl, hb1⟩)
    | (go_at_call 36; refine (HB.out _).mono ?_; rintro e w2 ⟨rfl, hb2⟩))
  go_ret
  exact ⟨by rw [← one_cat]; rfl, hb1.trans (hb2.mono hb1.size)⟩
set_option maxHeartbeats 400000 in
theorem rfind_5n (hno : ¬ S.ft id < S.T.length) : Calls Try.prog 42 #[.pointer (some ⟨p, 0, none⟩), .int .i64 5, .int .u64 (id : Int)] w (SE w [0]) := by
  have HA := hid (rt_any p va vt S id w h)
  rw [idxt_no hno] at HA
  have HB : Hid (∀ W, Calls Try.prog 36 #[.int .i64 0] W (SE W [0])) := hid fun W => rbyte_any 0 W (by decide)
  clear h hno
  go_enter Try.func42, Try.ntmps42
  go_wp2_with (first
    | (go_at_call 83; refine HA.out.mono ?_; rintro e w1 ⟨rfl, rfl⟩)
    | (go_at_call 36; refine (HB.out _).mono ?_; rintro e w2 ⟨rfl, hb⟩))
  go_ret
  exact ⟨rfl, hb⟩
set_option maxHeartbeats 1000000 in
theorem rfind_5y (hk : S.ft id < S.T.length) : Calls Try.prog 42 #[.pointer (some ⟨p, 0, none⟩), .int .i64 5, .int .u64 (id : Int)] w (SE w (1 :: trL (S.tr (S.ft id)))) := by
  rw [S.tr_get _ hk]
  have HA := hid (rt_any p va vt S id w h)
  rw [idxt_yes hk] at HA
  have HB : Hid (∀ W, Calls Try.prog 36 #[.int .i64 1] W (SE W [1])) := hid fun W => rbyte_any 1 W (by decide)
  obtain ⟨g, c, ev, hnc, hg⟩ := own_some h.trs (by omega : 0 < S.T.length)
  have hc0 := h.c1
  rw [ev] at hc0
  obtain ⟨A', c', e', -, hrd⟩ := h.vt_shape
  rw [ev] at e'
  simp only [Value.slice.injEq] at e'
  obtain ⟨rfl, -, rfl⟩ := e'
  have hro := h.wf.ot _ (List.getElem_mem hk)
  have HRT := hid (fun k (hk : k < S.T.length) => rt_one hrd k hk)
  have HP := hid (rputt_list (some ⟨g, S.ft id * 4, none⟩) [S.T[S.ft id]'hk] 1 (c - S.ft id) w.heap.size w (by have := HRT.out _ hk; rw [Nat.zero_add] at this; exact this) rfl (by omega) (Nat.le_refl _) (by intro y hy; rw [List.mem_singleton.1 hy]; exact hro))
  rw [(one_t _ hro).1] at HP
  have hl := trL_le (S.T[S.ft id]'hk)
  generalize trL (S.T[S.ft id]'hk) = bs at *
  have hkn : (S.ft id : Int) < (S.T.length : Int) := by omega
  have hk1 : (S.ft id : Int) + 1 ≤ (c : Int) := by omega
  have hk2 : ¬ c = S.ft id := by omega
  have hk0 : (0 : Int) ≤ (S.ft id : Int) := by omega
  have hn16 := h.wf.lt
  have hq : ¬ (9223372036854775807 < 1 + bs.length) := by omega
  have hq2 : ¬ (9223372036854775807 < bs.length + 1) := by omega
  clear h ev hg hrd hl hro HRT
  generalize S.ft id = k at *
  generalize S.T.length = n at *
  go_enter Try.func42, Try.ntmps42
  go_wp2_with (first
    | (go_at_call 83; refine HA.out.mono ?_; rintro e w1 ⟨rfl, rfl⟩)
    | (go_at_call 50; refine HP.out.mono ?_; rintro e w1 ⟨rfl, hb1⟩)
    | (go_at_call 36; refine (HB.out _).mono ?_; rintro e w2 ⟨rfl, hb2⟩))
  go_ret
  exact ⟨by rw [← one_cat]; rfl, hb1.trans (hb2.mono hb1.size)⟩
end
theorem rfind_4 (p : Nat) (fp : List Nat) (S : Lg) (id : Nat) (w : World) (h : Gk 30 p S fp w) : Calls Try.prog 42 #[.pointer (some ⟨p, 0, none⟩), .int .i64 4, .int .u64 (id : Int)] w fun e w' => e = .returned (.string ⟨(tela S id).2.toArray⟩) ∧ Gw 30 p w fp (tela S id).1 w' := by
  have hG := h
  obtain ⟨va, vt, rfl, h⟩ := h
  unfold tela
  by_cases hk : S.fa id < S.A.length
  · rw [if_pos hk]
    exact (rfind_4y p va vt S id w h hk).mono fun e w' hh => ⟨hh.1, (Gw.start hG).below hh.2⟩
  · rw [if_neg hk]
    exact (rfind_4n p va vt S id w h hk).mono fun e w' hh => ⟨hh.1, (Gw.start hG).below hh.2⟩
theorem rfind_5 (p : Nat) (fp : List Nat) (S : Lg) (id : Nat) (w : World) (h : Gk 30 p S fp w) : Calls Try.prog 42 #[.pointer (some ⟨p, 0, none⟩), .int .i64 5, .int .u64 (id : Int)] w fun e w' => e = .returned (.string ⟨(telt S id).2.toArray⟩) ∧ Gw 30 p w fp (telt S id).1 w' := by
  have hG := h
  obtain ⟨va, vt, rfl, h⟩ := h
  unfold telt
  by_cases hk : S.ft id < S.T.length
  · rw [if_pos hk]
    exact (rfind_5y p va vt S id w h hk).mono fun e w' hh => ⟨hh.1, (Gw.start hG).below hh.2⟩
  · rw [if_neg hk]
    exact (rfind_5n p va vt S id w h hk).mono fun e w' hh => ⟨hh.1, (Gw.start hG).below hh.2⟩
theorem rmove_any (p : Nat) (fp : List Nat) (S : Lg) (x : Tr) (w : World) (h : Gk 30 p S fp w) (hx : x.ok) :
    Calls Try.prog 40 #[.pointer (some ⟨p, 0, none⟩), .agg x.cells.toArray] w fun e w' => e = .returned (.int .i64 (S.jt x : Int)) ∧ Gw 30 p w fp (S.mov x) w' := by
  have hG := h
  obtain ⟨va, vt, rfl, h⟩ := h
  obtain ⟨a, b, c, d⟩ := x
  have hd : U64 d := hx.2.2.2
  have look : ∀ k, S.jt ⟨a, b, c, d⟩ = k → k ≠ 0 → S.mov ⟨a, b, c, d⟩ = S := fun k hk h0 => by
    unfold Lg.mov
    rw [if_neg (by rw [hk]; exact h0)]
  have done : ∀ k : Nat, S.jt ⟨a, b, c, d⟩ = k → k ≠ 0 → Calls Try.prog 40 #[.pointer (some ⟨p, 0, none⟩), .agg #[.int .u64 (a : Int), .int .u64 (b : Int), .int .u64 (c : Int), .int .u64 (d : Int)]] w (VE w (.int .i64 (k : Int))) →
      Calls Try.prog 40 #[.pointer (some ⟨p, 0, none⟩), .agg (Tr.cells ⟨a, b, c, d⟩).toArray] w fun e w' => e = .returned (.int .i64 (S.jt ⟨a, b, c, d⟩ : Int)) ∧ Gw 30 p w (fpG p va vt) (S.mov ⟨a, b, c, d⟩) w' := by
    intro k hk h0 hc
    rw [look k hk h0, hk]
    exact hc.mono fun e w' hh => ⟨hh.1, (Gw.start hG).below hh.2⟩
  by_cases h0 : a = 0
  · refine done 1 (by unfold Lg.jt; rw [if_pos h0]) (by decide) ?_
    subst h0
    exact rmove_1 p b c d w
  by_cases h1 : S.ft a < S.T.length
  · exact done 2 (by unfold Lg.jt; rw [if_neg h0, if_pos h1]) (by decide) (rmove_2 p va vt S a b c d w h h0 h1)
  by_cases h2 : b = c
  · exact done 4 (by unfold Lg.jt; rw [if_neg h0, if_neg h1, if_pos h2]) (by decide) (rmove_4 p va vt S a b c d w h h0 h1 h2)
  by_cases hi : ¬ S.fa b < S.A.length
  · exact done 5 (by unfold Lg.jt; rw [if_neg h0, if_neg h1, if_neg h2, if_pos hi]) (by decide) (rmove_5 p va vt S a b c d w h h0 h1 h2 hi)
  have hi' : S.fa b < S.A.length := by omega
  by_cases hk : ¬ S.fa c < S.A.length
  · exact done 6 (by unfold Lg.jt; rw [if_neg h0, if_neg h1, if_neg h2, if_neg hi, if_pos hk]) (by decide) (rmove_6 p va vt S a b c d w h h0 h1 h2 hi' hk)
  have hk' : S.fa c < S.A.length := by omega
  by_cases h3 : d = 0
  · exact done 7 (by unfold Lg.jt; rw [if_neg h0, if_neg h1, if_neg h2, if_neg hi, if_neg hk, if_pos h3]) (by decide) (rmove_7 p va vt S a b c d w h h0 h1 h2 hi' hk' h3)
  obtain ⟨g, c', -, -, hg⟩ := own_some h.accs (by omega : 0 < S.A.length)
  rcases Decidable.em (U64 (S.A[S.fa b].deb + d)) with ho | ho
  case inr =>
    refine done 8 (by unfold Lg.jt; rw [if_neg h0, if_neg h1, if_neg h2, if_neg hi, if_neg hk, if_neg h3, S.ac_get _ hi', S.ac_get _ hk', if_pos (.inl ho)]) (by decide) ?_
    exact rmove_8a p g va vt S a b c d w h hg _ _ rfl rfl hi' hk' h1 h2 h3 hd h0 ho
  rcases Decidable.em (U64 (S.A[S.fa c].cre + d)) with ho2 | ho2
  case inr =>
    refine done 8 (by unfold Lg.jt; rw [if_neg h0, if_neg h1, if_neg h2, if_neg hi, if_neg hk, if_neg h3, S.ac_get _ hi', S.ac_get _ hk', if_pos (.inr ho2)]) (by decide) ?_
    exact rmove_8b p g va vt S a b c d w h hg _ _ rfl rfl hi' hk' h1 h2 h3 hd h0 ho ho2
  have hno : ¬ (¬ U64 (S.A[S.fa b].deb + d) ∨ ¬ U64 (S.A[S.fa c].cre + d)) := by rintro (q | q); exact q ho; exact q ho2
  have yes : S.jt ⟨a, b, c, d⟩ = 0 → (S.mov ⟨a, b, c, d⟩) = ⟨S.paid ⟨a, b, c, d⟩, S.T ++ [⟨a, b, c, d⟩]⟩ := fun e => by unfold Lg.mov; rw [if_pos e]
  by_cases hf : S.A[S.fa b].flags = 1
  · by_cases hl : S.A[S.fa b].cre < S.A[S.fa b].deb + d
    · refine done 9 (by unfold Lg.jt; rw [if_neg h0, if_neg h1, if_neg h2, if_neg hi, if_neg hk, if_neg h3, S.ac_get _ hi', S.ac_get _ hk', if_neg hno, if_pos ⟨hf, hl⟩]) (by decide) ?_
      exact rmove_9 p g va vt S a b c d w h hg _ _ rfl rfl hi' hk' h1 h2 h3 hd h0 ho ho2 hf hl
    · by_cases h16 : S.T.length = 16
      · refine done 10 (by unfold Lg.jt; rw [if_neg h0, if_neg h1, if_neg h2, if_neg hi, if_neg hk, if_neg h3, S.ac_get _ hi', S.ac_get _ hk', if_neg hno, if_neg (fun q => hl q.2), if_pos h16]) (by decide) ?_
        exact rmove_10a p g va vt S a b c d w h hg _ _ rfl rfl hi' hk' h1 h2 h3 hd h0 ho ho2 hf hl h16
      · have e : S.jt ⟨a, b, c, d⟩ = 0 := by unfold Lg.jt; rw [if_neg h0, if_neg h1, if_neg h2, if_neg hi, if_neg hk, if_neg h3, S.ac_get _ hi', S.ac_get _ hk', if_neg hno, if_neg (fun q => hl q.2), if_neg h16]
        rw [yes e, e]
        exact rmove_0a p g va vt S a b c d w h hg _ _ rfl rfl hi' hk' h1 h2 h3 hd h0 ho ho2 hf hl hx (Lg.moves e)
  · by_cases h16 : S.T.length = 16
    · refine done 10 (by unfold Lg.jt; rw [if_neg h0, if_neg h1, if_neg h2, if_neg hi, if_neg hk, if_neg h3, S.ac_get _ hi', S.ac_get _ hk', if_neg hno, if_neg (fun q => hf q.1), if_pos h16]) (by decide) ?_
      exact rmove_10b p g va vt S a b c d w h hg _ _ rfl rfl hi' hk' h1 h2 h3 hd h0 ho ho2 hf h16
    · have e : S.jt ⟨a, b, c, d⟩ = 0 := by unfold Lg.jt; rw [if_neg h0, if_neg h1, if_neg h2, if_neg hi, if_neg hk, if_neg h3, S.ac_get _ hi', S.ac_get _ hk', if_neg hno, if_neg (fun q => hf q.1), if_neg h16]
      rw [yes e, e]
      exact rmove_0b p g va vt S a b c d w h hg _ _ rfl rfl hi' hk' h1 h2 h3 hd h0 ho ho2 hf hx (Lg.moves e)
end Go.Proofs.Ytbofabmgfkploaa
