/-
  The walks of the document's Find and Do.
-/
import Derived.Test.YtgednnjmcjhfmaaGreatDoorM16
import Derived.Test.YtgednnjmcjhfmaaGreatDoorM09
import Derived.Test.YtgednnjmcjhfmaaGreatDoorM15
import Derived.Test.YtgednnjmcjhfmaaGreatDoorM12
import Derived.Deep.QuietTactic
import Derived.BigQuiet
namespace Go.Proofs.YtgednnjmcjhfmaaGreatDoor
open Go.RowKit
set_option maxRecDepth 10000
set_option maxHeartbeats 80000000
theorem rt_one {w : World} {B g o : Nat} {l : List Tr} (h : Rd w B (some ⟨g, o, none⟩) (rows Tr.cells l)) (k : Nat) (hk : k < l.length) : Rd w B (some ⟨g, o + k * 4, none⟩) (rows Tr.cells [l[k]]) := by
 rw [rows1]
 intro _
 obtain ⟨g', o', e, hg, _⟩ := h (by intro e; have := rows_len (C := Tr.cells) Tr.len l; rw [e] at this; simp at this; omega)
 cases e
 exact ⟨g, o + k * 4, rfl, hg, fun j u hu => range_of h Tr.len hk j u hu⟩
section
variable (p : Nat) (va vt : Value) (S : Lg) (id : Nat) (w : World) (h : HasG w 57 p va vt S)
include h
theorem rfind_4n (hno : ¬ S.fa id < S.A.length) : Calls Tryz.prog 103 #[.pointer (some ⟨p, 0, none⟩), .int .i64 4, .int .u64 (id : Int)] w (SE w [0]) := by
 have HA := hid (ra_any p va vt S id w h)
 rw [idxa_no hno] at HA
 have HB : Hid (∀ W, Calls Tryz.prog 76 #[.int .i64 0] W (SE W [0])) := hid fun W => rbyte_any 0 W (by decide)
 clear h hno
 go_enter Tryz.func103, Tryz.ntmps103
 go_wp2_with (first
  | (go_at_call 136; refine HA.out.mono ?_; rintro e w1 ⟨rfl, rfl⟩)
  | (go_at_call 76; refine (HB.out _).mono ?_; rintro e w2 ⟨rfl, hb⟩))
 go_ret
 exact ⟨rfl, hb⟩
theorem rfind_4y (hk : S.fa id < S.A.length) : Calls Tryz.prog 103 #[.pointer (some ⟨p, 0, none⟩), .int .i64 4, .int .u64 (id : Int)] w (SE w (1 :: acB (S.ac (S.fa id)))) := by
 rw [S.ac_get _ hk]
 have HA := hid (ra_any p va vt S id w h)
 rw [idxa_yes hk] at HA
 have HB : Hid (∀ W, Calls Tryz.prog 76 #[.int .i64 1] W (SE W [1])) := hid fun W => rbyte_any 1 W (by decide)
 obtain ⟨g, c, ev, -, hg⟩ := own_some h.accs (by omega : 0 < S.A.length)
 have hc0 := h.c0
 rw [ev] at hc0
 have hrg : w.rangeAt g (S.fa id * 4) (Ac.cells (S.A[S.fa id]'hk)) := fun j v hv => by
  have hj : j < 4 := by
   have := (List.getElem?_eq_some_iff.1 hv).1
   rw [Ac.len] at this
   exact this
  rw [h.cellA hg _ j hk hj]
  exact hv
 have HP := hid (fun W => rpw_any (S.A[S.fa id]'hk) (h.wf.oa _ (List.getElem_mem hk)).1 W)
 have hl := acB_le (S.A[S.fa id]'hk)
 unfold acB at hl ⊢
 generalize wholeB (S.A[S.fa id]'hk) = r at *
 obtain ⟨bs, er⟩ := r
 have HC4 : Hid ((Ac.cells (S.A[S.fa id]'hk)).length = 4) := hid (Ac.len _)
 have hkn : (S.fa id : Int) < (S.A.length : Int) := by omega
 have hk0 : (0 : Int) ≤ (S.fa id : Int) := by omega
 generalize Ac.cells (S.A[S.fa id]'hk) = X at *
 generalize S.fa id = k at *
 generalize S.A.length = n at *
 have HRG := hid hrg
 have HZ := hid acSize
 have hq : ¬ (9223372036854775807 < 1 + bs.length) := by simp only at hl; omega
 have hq2 : ¬ (9223372036854775807 < bs.length + 1) := by simp only at hl; omega
 show Calls _ _ _ _ (SE w (1 :: bs))
 clear h hk ev hg hrg hl
 go_enter Tryz.func103, Tryz.ntmps103
 go_wp2_with (first
  | (go_at_call 136; refine HA.out.mono ?_; rintro e w1 ⟨rfl, rfl⟩)
  | (refine wpList_load_mid rfl 80 (.tmp 27) rfl g (k * 4) rfl X _ HRG.out Tryz.underlying80 rfl (by rw [HC4.out]; exact HZ.out) ?_)
  | (go_at_call 77; refine (HP.out _).mono ?_; rintro e w1 ⟨rfl, hb1⟩)
  | (go_at_call 76; refine (HB.out _).mono ?_; rintro e w2 ⟨rfl, hb2⟩))
 go_ret
 exact ⟨by rw [← one_cat]; rfl, hb1.trans (hb2.mono hb1.size)⟩
theorem rfind_5n (hno : ¬ S.ft id < S.T.length) : Calls Tryz.prog 103 #[.pointer (some ⟨p, 0, none⟩), .int .i64 5, .int .u64 (id : Int)] w (SE w [0]) := by
 have HA := hid (rt_any p va vt S id w h)
 rw [idxt_no hno] at HA
 have HB : Hid (∀ W, Calls Tryz.prog 76 #[.int .i64 0] W (SE W [0])) := hid fun W => rbyte_any 0 W (by decide)
 clear h hno
 go_enter Tryz.func103, Tryz.ntmps103
 go_wp2_with (first
  | (go_at_call 137; refine HA.out.mono ?_; rintro e w1 ⟨rfl, rfl⟩)
  | (go_at_call 76; refine (HB.out _).mono ?_; rintro e w2 ⟨rfl, hb⟩))
 go_ret
 exact ⟨rfl, hb⟩
theorem rfind_5y (hk : S.ft id < S.T.length) : Calls Tryz.prog 103 #[.pointer (some ⟨p, 0, none⟩), .int .i64 5, .int .u64 (id : Int)] w (SE w (1 :: trL (S.tr (S.ft id)))) := by
 rw [S.tr_get _ hk]
 have HA := hid (rt_any p va vt S id w h)
 rw [idxt_yes hk] at HA
 have HB : Hid (∀ W, Calls Tryz.prog 76 #[.int .i64 1] W (SE W [1])) := hid fun W => rbyte_any 1 W (by decide)
 obtain ⟨g, c, ev, hnc, hg⟩ := own_some h.trs (by omega : 0 < S.T.length)
 have hc0 := h.c1
 rw [ev] at hc0
 obtain ⟨A', c', e', -, hrd⟩ := h.vt_shape
 rw [ev] at e'
 simp only [Value.slice.injEq] at e'
 obtain ⟨rfl, -, rfl⟩ := e'
 have hro := h.wf.ot _ (List.getElem_mem hk)
 have HRT := hid (fun k (hk : k < S.T.length) => rt_one hrd k hk)
 have HP := hid (rputt_list (some ⟨g, S.ft id * 4, none⟩) [S.T[S.ft id]'hk] 1 (c - S.ft id) w.heap.size w (by have := HRT.out _ hk; rw [Nat.zero_add] at this; exact this) rfl (by omega) (Nat.le_refl _) (by intro y hy; rw [List.mem_singleton.1 hy]; exact hro))
 rw [(one_t _ hro).1] at HP
 have hl := trL_le (S.T[S.ft id]'hk)
 generalize trL (S.T[S.ft id]'hk) = bs at *
 have hkn : (S.ft id : Int) < (S.T.length : Int) := by omega
 have hk1 : (S.ft id : Int) + 1 ≤ (c : Int) := by omega
 have hk2 : ¬ c = S.ft id := by omega
 have hk0 : (0 : Int) ≤ (S.ft id : Int) := by omega
 have hn16 := h.wf.lt
 have hq : ¬ (9223372036854775807 < 1 + bs.length) := by omega
 have hq2 : ¬ (9223372036854775807 < bs.length + 1) := by omega
 clear h ev hg hrd hl hro HRT
 generalize S.ft id = k at *
 generalize S.T.length = n at *
 go_enter Tryz.func103, Tryz.ntmps103
 go_wp2_with (first
  | (go_at_call 137; refine HA.out.mono ?_; rintro e w1 ⟨rfl, rfl⟩)
  | (go_at_call 78; refine HP.out.mono ?_; rintro e w1 ⟨rfl, hb1⟩)
  | (go_at_call 76; refine (HB.out _).mono ?_; rintro e w2 ⟨rfl, hb2⟩))
 go_ret
 exact ⟨by rw [← one_cat]; rfl, hb1.trans (hb2.mono hb1.size)⟩
end
theorem rfind_4 (p : Nat) (fp : List Nat) (S : Lg) (id : Nat) (w : World) (h : Gk 57 p S fp w) : Calls Tryz.prog 103 #[.pointer (some ⟨p, 0, none⟩), .int .i64 4, .int .u64 (id : Int)] w fun e w' => e = .returned (.string ⟨(tela S id).2.toArray⟩) ∧ Gw 57 p w fp (tela S id).1 w' := by
 have hG := h
 obtain ⟨va, vt, rfl, h⟩ := h
 unfold tela
 by_cases hk : S.fa id < S.A.length
 ·
  rw [if_pos hk]
  exact (rfind_4y p va vt S id w h hk).mono fun e w' hh => ⟨hh.1, (Gw.start hG).below hh.2⟩
 ·
  rw [if_neg hk]
  exact (rfind_4n p va vt S id w h hk).mono fun e w' hh => ⟨hh.1, (Gw.start hG).below hh.2⟩
theorem rfind_5 (p : Nat) (fp : List Nat) (S : Lg) (id : Nat) (w : World) (h : Gk 57 p S fp w) : Calls Tryz.prog 103 #[.pointer (some ⟨p, 0, none⟩), .int .i64 5, .int .u64 (id : Int)] w fun e w' => e = .returned (.string ⟨(telt S id).2.toArray⟩) ∧ Gw 57 p w fp (telt S id).1 w' := by
 have hG := h
 obtain ⟨va, vt, rfl, h⟩ := h
 unfold telt
 by_cases hk : S.ft id < S.T.length
 ·
  rw [if_pos hk]
  exact (rfind_5y p va vt S id w h hk).mono fun e w' hh => ⟨hh.1, (Gw.start hG).below hh.2⟩
 ·
  rw [if_neg hk]
  exact (rfind_5n p va vt S id w h hk).mono fun e w' hh => ⟨hh.1, (Gw.start hG).below hh.2⟩
theorem rmove_any (p : Nat) (fp : List Nat) (S : Lg) (x : Tr) (w : World) (h : Gk 57 p S fp w) (hx : x.ok) :
  Calls Tryz.prog 101 #[.pointer (some ⟨p, 0, none⟩), .agg x.cells.toArray] w fun e w' => e = .returned (.int .i64 (S.jt x : Int)) ∧ Gw 57 p w fp (S.mov x) w' := by
 have hG := h
 obtain ⟨va, vt, rfl, h⟩ := h
 obtain ⟨a, b, c, d⟩ := x
 have hd : U64 d := hx.2.2.2
 have look : ∀ k, S.jt ⟨a, b, c, d⟩ = k → k ≠ 0 → S.mov ⟨a, b, c, d⟩ = S := fun k hk h0 => by
  unfold Lg.mov
  rw [if_neg (by rw [hk]; exact h0)]
 have done : ∀ k : Nat, S.jt ⟨a, b, c, d⟩ = k → k ≠ 0 → Calls Tryz.prog 101 #[.pointer (some ⟨p, 0, none⟩), .agg #[.int .u64 (a : Int), .int .u64 (b : Int), .int .u64 (c : Int), .int .u64 (d : Int)]] w (VE w (.int .i64 (k : Int))) →
   Calls Tryz.prog 101 #[.pointer (some ⟨p, 0, none⟩), .agg (Tr.cells ⟨a, b, c, d⟩).toArray] w fun e w' => e = .returned (.int .i64 (S.jt ⟨a, b, c, d⟩ : Int)) ∧ Gw 57 p w (fpG p va vt) (S.mov ⟨a, b, c, d⟩) w' := by
  intro k hk h0 hc
  rw [look k hk h0, hk]
  exact hc.mono fun e w' hh => ⟨hh.1, (Gw.start hG).below hh.2⟩
 by_cases h0 : a = 0
 ·
  refine done 1 (by unfold Lg.jt; rw [if_pos h0]) (by decide) ?_
  subst h0
  exact rmove_1 p b c d w
 by_cases h1 : S.ft a < S.T.length
 ·
  exact done 2 (by unfold Lg.jt; rw [if_neg h0, if_pos h1]) (by decide) (rmove_2 p va vt S a b c d w h h0 h1)
 by_cases h2 : b = c
 ·
  exact done 4 (by unfold Lg.jt; rw [if_neg h0, if_neg h1, if_pos h2]) (by decide) (rmove_4 p va vt S a b c d w h h0 h1 h2)
 by_cases hi : ¬ S.fa b < S.A.length
 ·
  exact done 5 (by unfold Lg.jt; rw [if_neg h0, if_neg h1, if_neg h2, if_pos hi]) (by decide) (rmove_5 p va vt S a b c d w h h0 h1 h2 hi)
 have hi' : S.fa b < S.A.length := by omega
 by_cases hk : ¬ S.fa c < S.A.length
 ·
  exact done 6 (by unfold Lg.jt; rw [if_neg h0, if_neg h1, if_neg h2, if_neg hi, if_pos hk]) (by decide) (rmove_6 p va vt S a b c d w h h0 h1 h2 hi' hk)
 have hk' : S.fa c < S.A.length := by omega
 by_cases h3 : d = 0
 ·
  exact done 7 (by unfold Lg.jt; rw [if_neg h0, if_neg h1, if_neg h2, if_neg hi, if_neg hk, if_pos h3]) (by decide) (rmove_7 p va vt S a b c d w h h0 h1 h2 hi' hk' h3)
 obtain ⟨g, c', -, -, hg⟩ := own_some h.accs (by omega : 0 < S.A.length)
 rcases Decidable.em (U64 (S.A[S.fa b].deb + d)) with ho | ho
 case inr =>
  refine done 8 (by unfold Lg.jt; rw [if_neg h0, if_neg h1, if_neg h2, if_neg hi, if_neg hk, if_neg h3, S.ac_get _ hi', S.ac_get _ hk', if_pos (.inl ho)]) (by decide) ?_
  exact rmove_8a p g va vt S a b c d w h hg _ _ rfl rfl hi' hk' h1 h2 h3 hd h0 ho
 rcases Decidable.em (U64 (S.A[S.fa c].cre + d)) with ho2 | ho2
 case inr =>
  refine done 8 (by unfold Lg.jt; rw [if_neg h0, if_neg h1, if_neg h2, if_neg hi, if_neg hk, if_neg h3, S.ac_get _ hi', S.ac_get _ hk', if_pos (.inr ho2)]) (by decide) ?_
  exact rmove_8b p g va vt S a b c d w h hg _ _ rfl rfl hi' hk' h1 h2 h3 hd h0 ho ho2
 have hno : ¬ (¬ U64 (S.A[S.fa b].deb + d) ∨ ¬ U64 (S.A[S.fa c].cre + d)) := by rintro (q | q); exact q ho; exact q ho2
 have yes : S.jt ⟨a, b, c, d⟩ = 0 → (S.mov ⟨a, b, c, d⟩) = ⟨S.paid ⟨a, b, c, d⟩, S.T ++ [⟨a, b, c, d⟩]⟩ := fun e => by unfold Lg.mov; rw [if_pos e]
 by_cases hf : S.A[S.fa b].flags = 1
 ·
  by_cases hl : S.A[S.fa b].cre < S.A[S.fa b].deb + d
  ·
   refine done 9 (by unfold Lg.jt; rw [if_neg h0, if_neg h1, if_neg h2, if_neg hi, if_neg hk, if_neg h3, S.ac_get _ hi', S.ac_get _ hk', if_neg hno, if_pos ⟨hf, hl⟩]) (by decide) ?_
   exact rmove_9 p g va vt S a b c d w h hg _ _ rfl rfl hi' hk' h1 h2 h3 hd h0 ho ho2 hf hl
  ·
   by_cases h16 : S.T.length = 16
   ·
    refine done 10 (by unfold Lg.jt; rw [if_neg h0, if_neg h1, if_neg h2, if_neg hi, if_neg hk, if_neg h3, S.ac_get _ hi', S.ac_get _ hk', if_neg hno, if_neg (fun q => hl q.2), if_pos h16]) (by decide) ?_
    exact rmove_10a p g va vt S a b c d w h hg _ _ rfl rfl hi' hk' h1 h2 h3 hd h0 ho ho2 hf hl h16
   ·
    have e : S.jt ⟨a, b, c, d⟩ = 0 := by unfold Lg.jt; rw [if_neg h0, if_neg h1, if_neg h2, if_neg hi, if_neg hk, if_neg h3, S.ac_get _ hi', S.ac_get _ hk', if_neg hno, if_neg (fun q => hl q.2), if_neg h16]
    rw [yes e, e]
    exact rmove_0a p g va vt S a b c d w h hg _ _ rfl rfl hi' hk' h1 h2 h3 hd h0 ho ho2 hf hl hx (Lg.moves e)
 ·
  by_cases h16 : S.T.length = 16
  ·
   refine done 10 (by unfold Lg.jt; rw [if_neg h0, if_neg h1, if_neg h2, if_neg hi, if_neg hk, if_neg h3, S.ac_get _ hi', S.ac_get _ hk', if_neg hno, if_neg (fun q => hf q.1), if_pos h16]) (by decide) ?_
   exact rmove_10b p g va vt S a b c d w h hg _ _ rfl rfl hi' hk' h1 h2 h3 hd h0 ho ho2 hf h16
  ·
   have e : S.jt ⟨a, b, c, d⟩ = 0 := by unfold Lg.jt; rw [if_neg h0, if_neg h1, if_neg h2, if_neg hi, if_neg hk, if_neg h3, S.ac_get _ hi', S.ac_get _ hk', if_neg hno, if_neg (fun q => hf q.1), if_neg h16]
   rw [yes e, e]
   exact rmove_0b p g va vt S a b c d w h hg _ _ rfl rfl hi' hk' h1 h2 h3 hd h0 ho ho2 hf hx (Lg.moves e)
theorem rdo_2_no (p : Nat) (s : ByteArray) (w : World) (hs : s.size ≤ 140737488355328) (hno : (takL 9 decA (sb s)).2 = false) :
  Calls Tryz.prog 59 #[.pointer (some ⟨p, 0, none⟩), .int .i64 2, .string s] w (SE w [1]) := by
 have HT := hid (fun W => rtaka_list s W hs)
 have HB0 : Hid (∀ W, Calls Tryz.prog 76 #[.int .i64 0] W (SE W [0])) := hid fun W => rbyte_any 0 W (by decide)
 have HB1 : Hid (∀ W, Calls Tryz.prog 76 #[.int .i64 1] W (SE W [1])) := hid fun W => rbyte_any 1 W (by decide)
 obtain ⟨⟨l, b⟩, hr⟩ : ∃ r, takL 9 decA (sb s) = r := ⟨_, rfl⟩
 rw [hr] at hno HT
 obtain rfl : b = false := hno
 have HT2 : Hid (∀ W, Calls Tryz.prog 98 #[.string s] W fun e w' => ∃ A c, e = .returned (.tuple #[.slice A l.length c, .bool false]) ∧ Below W.heap.size W w') := hid fun W => ((HT.out W).mono fun e w' ⟨A, c, h1, _, _, h2, _⟩ => ⟨A, c, h1, h2⟩)
 clear HT hr hs
 go_enter Tryz.func59, Tryz.ntmps59
 go_wp2_with (go_at_call 76; refine (HB0.out _).mono ?_; rintro e w1 ⟨rfl, hb1⟩; clear HB0)
 go_wp2_with (first
  | (go_at_call 98; refine (HT2.out _).mono ?_; rintro e w2 ⟨A, c, rfl, hb2⟩)
  | (go_at_call 76; refine (HB1.out _).mono ?_; rintro e w3 ⟨rfl, hb3⟩))
 go_ret
 exact ⟨rfl, hb1.trans ((hb2.trans (hb3.mono hb2.size)).mono hb1.size)⟩
theorem rdo_2_yes (p : Nat) (fp : List Nat) (S : Lg) (s : ByteArray) (w : World) (hs : s.size ≤ 140737488355328) (h : Gk 57 p S fp w) (l : List Ac) (hr : takL 9 decA (sb s) = (l, true)) :
  Calls Tryz.prog 59 #[.pointer (some ⟨p, 0, none⟩), .int .i64 2, .string s] w fun e w' => e = .returned (.string ⟨(runL mka S l).2.toArray⟩) ∧ Gw 57 p w fp (runL mka S l).1 w' := by
 have HT := hid (fun W => rtaka_list s W hs)
 have HB0 : Hid (∀ W, Calls Tryz.prog 76 #[.int .i64 0] W (SE W [0])) := hid fun W => rbyte_any 0 W (by decide)
 have hle := takL_le 9 decA (sb s)
 have hok := takL_all (n := 9) (s := sb s) (ok := (fun x : Ac => x.flat ∧ x.deb = 0 ∧ x.cre = 0)) (fun p => ⟨decA_flat p, rfl, rfl⟩)
 rw [hr] at HT hle hok
 simp only at hle hok
 obtain ⟨n, hn⟩ : ∃ n, n = l.length := ⟨_, rfl⟩
 have HT2 : Hid (∀ W, Calls Tryz.prog 98 #[.string s] W fun e w' => ∃ A c, e = .returned (.tuple #[.slice A n c, .bool true]) ∧ n ≤ c ∧ Rd w' w'.heap.size A (rows Ac.cells l) ∧ Below W.heap.size W w' ∧ NewA W A) := hid (by rw [hn]; exact HT.out)
 rw [← hn] at hle
 have HN := hid hn
 have HOK := hid (fun k (hk : k < l.length) => hok l[k] (List.getElem_mem hk))
 have HLT := hid h.lt
 have HH := hid h
 have HZ := hid acSize
 have HBY := hid (fun (n : Nat) W (h : (n : Int) ≤ 255) => rbyte_any n W h)
 have HEND : Hid (runL mka S (l.take n) = runL mka S l) := hid (by rw [List.take_of_length_le (by omega)])
 have HST := hid (fun k (hk : k < l.length) => runL_take mka S l k hk)
 have HLE := hid (fun k => runL_len mka 33 mka_len S (l.take k))
 have HTL : Hid (∀ k, (l.take k).length ≤ k) := hid fun k => List.length_take_le _ _
 clear HT hr hs hok hn h
 go_enter Tryz.func59, Tryz.ntmps59
 go_wp2_with (first
  | (go_at_call 76; refine (HB0.out _).mono ?_; rintro e w1 ⟨rfl, hb1⟩; have HBB := hid hb1; clear hb1)
  | (go_at_call 98; refine (HT2.out _).mono ?_; rintro e w2 ⟨A, c, rfl, hnc, hrd2, hb2, hnew⟩; have HRD := hid hrd2; have HB2 := hid hb2; have HNEW := hid hnew; clear hrd2 hb2 hnew))
 have HBW : Hid (Below w.heap.size w w2) := hid (HBB.out.trans (HB2.out.mono HBB.out.size))
 have HNW : Hid (NewA w A) := hid (HNEW.out.le HBB.out.size)
 have HG1 := hid (Gw.start (HH.out.below HBW.out))
 clear HT2 HB0
 go_loopw [7, 10] (fun sv i wr => ∃ k : Nat, k ≤ n ∧ i = .int .i64 k ∧ sv = .string ⟨(runL mka S (l.take k)).2.toArray⟩ ∧ Gw 57 p w2 fp (runL mka S (l.take k)).1 wr) (fun _ i _ => n - (intOf i).toNat)
 case atStart => exact ⟨0, by omega, rfl, rfl, HG1.out⟩
 case round =>
  obtain ⟨k, hk, rfl, rfl, hgw⟩ := hrel
  have HGW := hid hgw
  have hlen := HLE.out k
  have hlen2 := HTL.out k
  by_cases hlt : k < n
  ·
   have hkl : k < l.length := by rw [← HN.out]; exact hlt
   have hrd := hgw.rdA HRD.out HNW.out HLT.out
   obtain ⟨ga, o, rfl⟩ := shape_of hrd Ac.len (by decide) (by omega)
   have hki : (k : Int) < (n : Int) := by omega
   have HS := hid (HST.out k hkl)
   obtain ⟨SK, hSK⟩ : ∃ SK, (runL mka S (l.take k)).1 = SK := ⟨_, rfl⟩
   rw [hSK] at HGW HS
   obtain ⟨acc, hac⟩ : ∃ acc, (runL mka S (l.take k)).2 = acc := ⟨_, rfl⟩
   rw [hac] at hlen HS ⊢
   clear hSK hac
   have HC4 : Hid ((Ac.cells l[k]).length = 4) := hid (Ac.len _)
   have HRG := hid (range_of hrd Ac.len hkl)
   obtain ⟨cd, hcd⟩ : ∃ cd, SK.ja l[k] = cd := ⟨_, rfl⟩
   have hc10 : (cd : Int) ≤ 255 := by have := SK.ja_le l[k]; omega
   obtain ⟨SN, hSN⟩ : ∃ SN, SK.opn l[k] = SN := ⟨_, rfl⟩
   have hmk : mka SK l[k] = (SN, [UInt8.ofNat cd]) := by unfold mka; rw [hcd, hSN]
   rw [hmk] at HS
   have HX : Hid (∀ fq W, Gk 57 p SK fq W → Calls Tryz.prog 99 #[.pointer (some ⟨p, 0, none⟩), .agg (Ac.cells l[k]).toArray] W fun e w' => e = .returned (.int .i64 (cd : Int)) ∧ Gw 57 p W fq SN w') := hid fun fq W hg => by
    rw [← hcd, ← hSN]
    exact ropen_any p fq SK l[k] W hg (HOK.out k hkl).1 (HOK.out k hkl).2.1 (HOK.out k hkl).2.2
   have HBC := hid (fun W => HBY.out cd W hc10)
   have hq : ¬ (9223372036854775807 < acc.length + 1) := by omega
   generalize Ac.cells l[k] = X at *
   clear hcd hSN hmk
   clear hrd hgw hlen hlen2
   go_wp2_with (first
    | (refine wpList_load_mid rfl 80 (.tmp 38) rfl ga (o + k * 4) rfl X _ HRG.out Tryz.underlying80 rfl (by rw [HC4.out]; exact HZ.out) ?_)
    | (go_at_call 99; refine (HGW.out.call (fun fq hk => HX.out fq wr hk)).mono ?_; rintro e w3 ⟨rfl, hg3⟩; have HG3 := hid hg3; clear hg3)
    | (go_at_call 76; refine (HBC.out _).mono ?_; rintro e w4 ⟨rfl, hb4⟩; replace HG3 := hid (HG3.out.below hb4)))
   exact ⟨⟨k + 1, by omega, by go_num, by rw [HS.out, ← cat_mk], by rw [HS.out]; exact HG3.out⟩, by simp [intOf]; omega⟩
  ·
   obtain rfl : k = n := by omega
   clear hgw
   go_wp2_with fail
   go_ret
   refine ⟨by rw [HEND.out]; rfl, ?_⟩
   rw [← HEND.out]
   obtain ⟨fq, k1, k2, k3⟩ := HGW.out
   have hs1 := HBW.out.size
   exact ⟨fq, k1, ((Fr.of_below HBW.out).mono (fq := fp) (by simp)).trans k2 (fun b hb _ => hb), fun g hg => by
    rcases k3 g hg with h | h
    ·
     exact .inl h
    ·
     right; omega⟩
theorem rdo_3_no (p : Nat) (s : ByteArray) (w : World) (hs : s.size ≤ 140737488355328) (hno : (takL 32 decT (sb s)).2 = false) :
  Calls Tryz.prog 59 #[.pointer (some ⟨p, 0, none⟩), .int .i64 3, .string s] w (SE w [1]) := by
 have HT := hid (fun W => rtakt_list s W hs)
 have HB0 : Hid (∀ W, Calls Tryz.prog 76 #[.int .i64 0] W (SE W [0])) := hid fun W => rbyte_any 0 W (by decide)
 have HB1 : Hid (∀ W, Calls Tryz.prog 76 #[.int .i64 1] W (SE W [1])) := hid fun W => rbyte_any 1 W (by decide)
 obtain ⟨⟨l, b⟩, hr⟩ : ∃ r, takL 32 decT (sb s) = r := ⟨_, rfl⟩
 rw [hr] at hno HT
 obtain rfl : b = false := hno
 have HT2 : Hid (∀ W, Calls Tryz.prog 100 #[.string s] W fun e w' => ∃ A c, e = .returned (.tuple #[.slice A l.length c, .bool false]) ∧ Below W.heap.size W w') := hid fun W => ((HT.out W).mono fun e w' ⟨A, c, h1, _, _, h2, _⟩ => ⟨A, c, h1, h2⟩)
 clear HT hr hs
 go_enter Tryz.func59, Tryz.ntmps59
 go_wp2_with (go_at_call 76; refine (HB0.out _).mono ?_; rintro e w1 ⟨rfl, hb1⟩; clear HB0)
 go_wp2_with (first
  | (go_at_call 100; refine (HT2.out _).mono ?_; rintro e w2 ⟨A, c, rfl, hb2⟩)
  | (go_at_call 76; refine (HB1.out _).mono ?_; rintro e w3 ⟨rfl, hb3⟩))
 go_ret
 exact ⟨rfl, hb1.trans ((hb2.trans (hb3.mono hb2.size)).mono hb1.size)⟩
theorem rdo_3_yes (p : Nat) (fp : List Nat) (S : Lg) (s : ByteArray) (w : World) (hs : s.size ≤ 140737488355328) (h : Gk 57 p S fp w) (l : List Tr) (hr : takL 32 decT (sb s) = (l, true)) :
  Calls Tryz.prog 59 #[.pointer (some ⟨p, 0, none⟩), .int .i64 3, .string s] w fun e w' => e = .returned (.string ⟨(runL mkt S l).2.toArray⟩) ∧ Gw 57 p w fp (runL mkt S l).1 w' := by
 have HT := hid (fun W => rtakt_list s W hs)
 have HB0 : Hid (∀ W, Calls Tryz.prog 76 #[.int .i64 0] W (SE W [0])) := hid fun W => rbyte_any 0 W (by decide)
 have hle := takL_le 32 decT (sb s)
 have hok := takL_all (n := 32) (s := sb s) (ok := Tr.ok) decT_ok
 rw [hr] at HT hle hok
 simp only at hle hok
 obtain ⟨n, hn⟩ : ∃ n, n = l.length := ⟨_, rfl⟩
 have HT2 : Hid (∀ W, Calls Tryz.prog 100 #[.string s] W fun e w' => ∃ A c, e = .returned (.tuple #[.slice A n c, .bool true]) ∧ n ≤ c ∧ Rd w' w'.heap.size A (rows Tr.cells l) ∧ Below W.heap.size W w' ∧ NewA W A) := hid (by rw [hn]; exact HT.out)
 rw [← hn] at hle
 have HN := hid hn
 have HOK := hid (fun k (hk : k < l.length) => hok l[k] (List.getElem_mem hk))
 have HLT := hid h.lt
 have HH := hid h
 have HZ := hid trSize
 have HBY := hid (fun (n : Nat) W (h : (n : Int) ≤ 255) => rbyte_any n W h)
 have HEND : Hid (runL mkt S (l.take n) = runL mkt S l) := hid (by rw [List.take_of_length_le (by omega)])
 have HST := hid (fun k (hk : k < l.length) => runL_take mkt S l k hk)
 have HLE := hid (fun k => runL_len mkt 33 mkt_len S (l.take k))
 have HTL : Hid (∀ k, (l.take k).length ≤ k) := hid fun k => List.length_take_le _ _
 clear HT hr hs hok hn h
 go_enter Tryz.func59, Tryz.ntmps59
 go_wp2_with (first
  | (go_at_call 76; refine (HB0.out _).mono ?_; rintro e w1 ⟨rfl, hb1⟩; have HBB := hid hb1; clear hb1)
  | (go_at_call 100; refine (HT2.out _).mono ?_; rintro e w2 ⟨A, c, rfl, hnc, hrd2, hb2, hnew⟩; have HRD := hid hrd2; have HB2 := hid hb2; have HNEW := hid hnew; clear hrd2 hb2 hnew))
 have HBW : Hid (Below w.heap.size w w2) := hid (HBB.out.trans (HB2.out.mono HBB.out.size))
 have HNW : Hid (NewA w A) := hid (HNEW.out.le HBB.out.size)
 have HG1 := hid (Gw.start (HH.out.below HBW.out))
 clear HT2 HB0
 go_loopw [7, 13] (fun sv i wr => ∃ k : Nat, k ≤ n ∧ i = .int .i64 k ∧ sv = .string ⟨(runL mkt S (l.take k)).2.toArray⟩ ∧ Gw 57 p w2 fp (runL mkt S (l.take k)).1 wr) (fun _ i _ => n - (intOf i).toNat)
 case atStart => exact ⟨0, by omega, rfl, rfl, HG1.out⟩
 case round =>
  obtain ⟨k, hk, rfl, rfl, hgw⟩ := hrel
  have HGW := hid hgw
  have hlen := HLE.out k
  have hlen2 := HTL.out k
  by_cases hlt : k < n
  ·
   have hkl : k < l.length := by rw [← HN.out]; exact hlt
   have hrd := hgw.rdA HRD.out HNW.out HLT.out
   obtain ⟨ga, o, rfl⟩ := shape_of hrd Tr.len (by decide) (by omega)
   have hki : (k : Int) < (n : Int) := by omega
   have HS := hid (HST.out k hkl)
   obtain ⟨SK, hSK⟩ : ∃ SK, (runL mkt S (l.take k)).1 = SK := ⟨_, rfl⟩
   rw [hSK] at HGW HS
   obtain ⟨acc, hac⟩ : ∃ acc, (runL mkt S (l.take k)).2 = acc := ⟨_, rfl⟩
   rw [hac] at hlen HS ⊢
   clear hSK hac
   have HC4 : Hid ((Tr.cells l[k]).length = 4) := hid (Tr.len _)
   have HRG := hid (range_of hrd Tr.len hkl)
   obtain ⟨cd, hcd⟩ : ∃ cd, SK.jt l[k] = cd := ⟨_, rfl⟩
   have hc10 : (cd : Int) ≤ 255 := by have := SK.jt_le l[k]; omega
   obtain ⟨SN, hSN⟩ : ∃ SN, SK.mov l[k] = SN := ⟨_, rfl⟩
   have hmk : mkt SK l[k] = (SN, [UInt8.ofNat cd]) := by unfold mkt; rw [hcd, hSN]
   rw [hmk] at HS
   have HX : Hid (∀ fq W, Gk 57 p SK fq W → Calls Tryz.prog 101 #[.pointer (some ⟨p, 0, none⟩), .agg (Tr.cells l[k]).toArray] W fun e w' => e = .returned (.int .i64 (cd : Int)) ∧ Gw 57 p W fq SN w') := hid fun fq W hg => by
    rw [← hcd, ← hSN]
    exact rmove_any p fq SK l[k] W hg (HOK.out k hkl)
   have HBC := hid (fun W => HBY.out cd W hc10)
   have hq : ¬ (9223372036854775807 < acc.length + 1) := by omega
   generalize Tr.cells l[k] = X at *
   clear hcd hSN hmk
   clear hrd hgw hlen hlen2
   go_wp2_with (first
    | (refine wpList_load_mid rfl 82 (.tmp 64) rfl ga (o + k * 4) rfl X _ HRG.out Tryz.underlying82 rfl (by rw [HC4.out]; exact HZ.out) ?_)
    | (go_at_call 101; refine (HGW.out.call (fun fq hk => HX.out fq wr hk)).mono ?_; rintro e w3 ⟨rfl, hg3⟩; have HG3 := hid hg3; clear hg3)
    | (go_at_call 76; refine (HBC.out _).mono ?_; rintro e w4 ⟨rfl, hb4⟩; replace HG3 := hid (HG3.out.below hb4)))
   exact ⟨⟨k + 1, by omega, by go_num, by rw [HS.out, ← cat_mk], by rw [HS.out]; exact HG3.out⟩, by simp [intOf]; omega⟩
  ·
   obtain rfl : k = n := by omega
   clear hgw
   go_wp2_with fail
   go_ret
   refine ⟨by rw [HEND.out]; rfl, ?_⟩
   rw [← HEND.out]
   obtain ⟨fq, k1, k2, k3⟩ := HGW.out
   have hs1 := HBW.out.size
   exact ⟨fq, k1, ((Fr.of_below HBW.out).mono (fq := fp) (by simp)).trans k2 (fun b hb _ => hb), fun g hg => by
    rcases k3 g hg with h | h
    ·
     exact .inl h
    ·
     right; omega⟩
theorem rdo_4_no (p : Nat) (s : ByteArray) (w : World) (hs : s.size ≤ 140737488355328) (hno : (takL 8 decI (sb s)).2 = false) :
  Calls Tryz.prog 59 #[.pointer (some ⟨p, 0, none⟩), .int .i64 4, .string s] w (SE w [1]) := by
 have HT := hid (fun W => rtaki_list s W hs)
 have HB0 : Hid (∀ W, Calls Tryz.prog 76 #[.int .i64 0] W (SE W [0])) := hid fun W => rbyte_any 0 W (by decide)
 have HB1 : Hid (∀ W, Calls Tryz.prog 76 #[.int .i64 1] W (SE W [1])) := hid fun W => rbyte_any 1 W (by decide)
 obtain ⟨⟨l, b⟩, hr⟩ : ∃ r, takL 8 decI (sb s) = r := ⟨_, rfl⟩
 rw [hr] at hno HT
 obtain rfl : b = false := hno
 have HT2 : Hid (∀ W, Calls Tryz.prog 102 #[.string s] W fun e w' => ∃ A c, e = .returned (.tuple #[.slice A l.length c, .bool false]) ∧ Below W.heap.size W w') := hid fun W => ((HT.out W).mono fun e w' ⟨A, c, h1, _, _, h2, _⟩ => ⟨A, c, h1, h2⟩)
 clear HT hr hs
 go_enter Tryz.func59, Tryz.ntmps59
 go_wp2_with (go_at_call 76; refine (HB0.out _).mono ?_; rintro e w1 ⟨rfl, hb1⟩; clear HB0)
 go_wp2_with (first
  | (go_at_call 102; refine (HT2.out _).mono ?_; rintro e w2 ⟨A, c, rfl, hb2⟩)
  | (go_at_call 76; refine (HB1.out _).mono ?_; rintro e w3 ⟨rfl, hb3⟩))
 go_ret
 exact ⟨rfl, hb1.trans ((hb2.trans (hb3.mono hb2.size)).mono hb1.size)⟩
theorem rdo_4_yes (p : Nat) (fp : List Nat) (S : Lg) (s : ByteArray) (w : World) (hs : s.size ≤ 140737488355328) (h : Gk 57 p S fp w) (l : List Nat) (hr : takL 8 decI (sb s) = (l, true)) :
  Calls Tryz.prog 59 #[.pointer (some ⟨p, 0, none⟩), .int .i64 4, .string s] w fun e w' => e = .returned (.string ⟨(runL tela S l).2.toArray⟩) ∧ Gw 57 p w fp (runL tela S l).1 w' := by
 have HT := hid (fun W => rtaki_list s W hs)
 have HB0 : Hid (∀ W, Calls Tryz.prog 76 #[.int .i64 0] W (SE W [0])) := hid fun W => rbyte_any 0 W (by decide)
 have hle := takL_le 8 decI (sb s)
 have hok := takL_all (n := 8) (s := sb s) (ok := U64) decI_ok
 rw [hr] at HT hle hok
 simp only at hle hok
 obtain ⟨n, hn⟩ : ∃ n, n = l.length := ⟨_, rfl⟩
 have HT2 : Hid (∀ W, Calls Tryz.prog 102 #[.string s] W fun e w' => ∃ A c, e = .returned (.tuple #[.slice A n c, .bool true]) ∧ n ≤ c ∧ Rd w' w'.heap.size A (rows Ic l) ∧ Below W.heap.size W w' ∧ NewA W A) := hid (by rw [hn]; exact HT.out)
 rw [← hn] at hle
 have HN := hid hn
 have HOK := hid (fun k (hk : k < l.length) => hok l[k] (List.getElem_mem hk))
 have HLT := hid h.lt
 have HH := hid h
 have HEND : Hid (runL tela S (l.take n) = runL tela S l) := hid (by rw [List.take_of_length_le (by omega)])
 have HST := hid (fun k (hk : k < l.length) => runL_take tela S l k hk)
 have HLE := hid (fun k => runL_len tela 33 tela_len S (l.take k))
 have HTL : Hid (∀ k, (l.take k).length ≤ k) := hid fun k => List.length_take_le _ _
 clear HT hr hs hok hn h
 go_enter Tryz.func59, Tryz.ntmps59
 go_wp2_with (first
  | (go_at_call 76; refine (HB0.out _).mono ?_; rintro e w1 ⟨rfl, hb1⟩; have HBB := hid hb1; clear hb1)
  | (go_at_call 102; refine (HT2.out _).mono ?_; rintro e w2 ⟨A, c, rfl, hnc, hrd2, hb2, hnew⟩; have HRD := hid hrd2; have HB2 := hid hb2; have HNEW := hid hnew; clear hrd2 hb2 hnew))
 have HBW : Hid (Below w.heap.size w w2) := hid (HBB.out.trans (HB2.out.mono HBB.out.size))
 have HNW : Hid (NewA w A) := hid (HNEW.out.le HBB.out.size)
 have HG1 := hid (Gw.start (HH.out.below HBW.out))
 clear HT2 HB0
 go_loopw [7, 16] (fun sv i wr => ∃ k : Nat, k ≤ n ∧ i = .int .i64 k ∧ sv = .string ⟨(runL tela S (l.take k)).2.toArray⟩ ∧ Gw 57 p w2 fp (runL tela S (l.take k)).1 wr) (fun _ i _ => n - (intOf i).toNat)
 case atStart => exact ⟨0, by omega, rfl, rfl, HG1.out⟩
 case round =>
  obtain ⟨k, hk, rfl, rfl, hgw⟩ := hrel
  have HGW := hid hgw
  have hlen := HLE.out k
  have hlen2 := HTL.out k
  by_cases hlt : k < n
  ·
   have hkl : k < l.length := by rw [← HN.out]; exact hlt
   have hrd := hgw.rdA HRD.out HNW.out HLT.out
   obtain ⟨ga, o, rfl⟩ := shape_of hrd Ic_len (by decide) (by omega)
   have hki : (k : Int) < (n : Int) := by omega
   have HS := hid (HST.out k hkl)
   obtain ⟨SK, hSK⟩ : ∃ SK, (runL tela S (l.take k)).1 = SK := ⟨_, rfl⟩
   rw [hSK] at HGW HS
   obtain ⟨acc, hac⟩ : ∃ acc, (runL tela S (l.take k)).2 = acc := ⟨_, rfl⟩
   rw [hac] at hlen HS ⊢
   clear hSK hac
   have hcl : wr.cell? ⟨ga, o + k, none⟩ = some (.int .u64 (l[k] : Int)) := by
    have := range_of hrd Ic_len hkl 0 _ rfl
    rw [Nat.mul_one] at this
    exact this
   obtain ⟨bs, hbs⟩ : ∃ bs, (tela SK l[k]).2 = bs := ⟨_, rfl⟩
   obtain ⟨SN, hSN⟩ : ∃ SN, (tela SK l[k]).1 = SN := ⟨_, rfl⟩
   have hbl := tela_len SK l[k]
   rw [hbs] at HS hbl
   rw [hSN] at HS
   have HX : Hid (∀ fq W, Gk 57 p SK fq W → Calls Tryz.prog 103 #[.pointer (some ⟨p, 0, none⟩), .int .i64 4, .int .u64 (l[k] : Int)] W fun e w' => e = .returned (.string ⟨bs.toArray⟩) ∧ Gw 57 p W fq SN w') := hid fun fq W hg => by
    rw [← hbs, ← hSN]
    exact rfind_4 p fq SK l[k] W hg
   have hq : ¬ (9223372036854775807 < acc.length + bs.length) := by omega
   generalize l[k] = X at *
   clear hbs hSN hbl
   clear hrd hgw hlen hlen2
   go_wp2_with (go_at_call 103; refine (HGW.out.call (fun fq hk => HX.out fq wr hk)).mono ?_; rintro e w3 ⟨rfl, hg3⟩; have HG3 := hid hg3; clear hg3)
   exact ⟨⟨k + 1, by omega, by go_num, by rw [HS.out, ← cat_mk], by rw [HS.out]; exact HG3.out⟩, by simp [intOf]; omega⟩
  ·
   obtain rfl : k = n := by omega
   clear hgw
   go_wp2_with fail
   go_ret
   refine ⟨by rw [HEND.out]; rfl, ?_⟩
   rw [← HEND.out]
   obtain ⟨fq, k1, k2, k3⟩ := HGW.out
   have hs1 := HBW.out.size
   exact ⟨fq, k1, ((Fr.of_below HBW.out).mono (fq := fp) (by simp)).trans k2 (fun b hb _ => hb), fun g hg => by
    rcases k3 g hg with h | h
    ·
     exact .inl h
    ·
     right; omega⟩
theorem rdo_5_no (p : Nat) (s : ByteArray) (w : World) (hs : s.size ≤ 140737488355328) (hno : (takL 8 decI (sb s)).2 = false) :
  Calls Tryz.prog 59 #[.pointer (some ⟨p, 0, none⟩), .int .i64 5, .string s] w (SE w [1]) := by
 have HT := hid (fun W => rtaki_list s W hs)
 have HB0 : Hid (∀ W, Calls Tryz.prog 76 #[.int .i64 0] W (SE W [0])) := hid fun W => rbyte_any 0 W (by decide)
 have HB1 : Hid (∀ W, Calls Tryz.prog 76 #[.int .i64 1] W (SE W [1])) := hid fun W => rbyte_any 1 W (by decide)
 obtain ⟨⟨l, b⟩, hr⟩ : ∃ r, takL 8 decI (sb s) = r := ⟨_, rfl⟩
 rw [hr] at hno HT
 obtain rfl : b = false := hno
 have HT2 : Hid (∀ W, Calls Tryz.prog 102 #[.string s] W fun e w' => ∃ A c, e = .returned (.tuple #[.slice A l.length c, .bool false]) ∧ Below W.heap.size W w') := hid fun W => ((HT.out W).mono fun e w' ⟨A, c, h1, _, _, h2, _⟩ => ⟨A, c, h1, h2⟩)
 clear HT hr hs
 go_enter Tryz.func59, Tryz.ntmps59
 go_wp2_with (go_at_call 76; refine (HB0.out _).mono ?_; rintro e w1 ⟨rfl, hb1⟩; clear HB0)
 go_wp2_with (first
  | (go_at_call 102; refine (HT2.out _).mono ?_; rintro e w2 ⟨A, c, rfl, hb2⟩)
  | (go_at_call 76; refine (HB1.out _).mono ?_; rintro e w3 ⟨rfl, hb3⟩))
 go_ret
 exact ⟨rfl, hb1.trans ((hb2.trans (hb3.mono hb2.size)).mono hb1.size)⟩
theorem rdo_5_yes (p : Nat) (fp : List Nat) (S : Lg) (s : ByteArray) (w : World) (hs : s.size ≤ 140737488355328) (h : Gk 57 p S fp w) (l : List Nat) (hr : takL 8 decI (sb s) = (l, true)) :
  Calls Tryz.prog 59 #[.pointer (some ⟨p, 0, none⟩), .int .i64 5, .string s] w fun e w' => e = .returned (.string ⟨(runL telt S l).2.toArray⟩) ∧ Gw 57 p w fp (runL telt S l).1 w' := by
 have HT := hid (fun W => rtaki_list s W hs)
 have HB0 : Hid (∀ W, Calls Tryz.prog 76 #[.int .i64 0] W (SE W [0])) := hid fun W => rbyte_any 0 W (by decide)
 have hle := takL_le 8 decI (sb s)
 have hok := takL_all (n := 8) (s := sb s) (ok := U64) decI_ok
 rw [hr] at HT hle hok
 simp only at hle hok
 obtain ⟨n, hn⟩ : ∃ n, n = l.length := ⟨_, rfl⟩
 have HT2 : Hid (∀ W, Calls Tryz.prog 102 #[.string s] W fun e w' => ∃ A c, e = .returned (.tuple #[.slice A n c, .bool true]) ∧ n ≤ c ∧ Rd w' w'.heap.size A (rows Ic l) ∧ Below W.heap.size W w' ∧ NewA W A) := hid (by rw [hn]; exact HT.out)
 rw [← hn] at hle
 have HN := hid hn
 have HOK := hid (fun k (hk : k < l.length) => hok l[k] (List.getElem_mem hk))
 have HLT := hid h.lt
 have HH := hid h
 have HEND : Hid (runL telt S (l.take n) = runL telt S l) := hid (by rw [List.take_of_length_le (by omega)])
 have HST := hid (fun k (hk : k < l.length) => runL_take telt S l k hk)
 have HLE := hid (fun k => runL_len telt 33 telt_len S (l.take k))
 have HTL : Hid (∀ k, (l.take k).length ≤ k) := hid fun k => List.length_take_le _ _
 clear HT hr hs hok hn h
 go_enter Tryz.func59, Tryz.ntmps59
 go_wp2_with (first
  | (go_at_call 76; refine (HB0.out _).mono ?_; rintro e w1 ⟨rfl, hb1⟩; have HBB := hid hb1; clear hb1)
  | (go_at_call 102; refine (HT2.out _).mono ?_; rintro e w2 ⟨A, c, rfl, hnc, hrd2, hb2, hnew⟩; have HRD := hid hrd2; have HB2 := hid hb2; have HNEW := hid hnew; clear hrd2 hb2 hnew))
 have HBW : Hid (Below w.heap.size w w2) := hid (HBB.out.trans (HB2.out.mono HBB.out.size))
 have HNW : Hid (NewA w A) := hid (HNEW.out.le HBB.out.size)
 have HG1 := hid (Gw.start (HH.out.below HBW.out))
 clear HT2 HB0
 go_loopw [7, 16] (fun sv i wr => ∃ k : Nat, k ≤ n ∧ i = .int .i64 k ∧ sv = .string ⟨(runL telt S (l.take k)).2.toArray⟩ ∧ Gw 57 p w2 fp (runL telt S (l.take k)).1 wr) (fun _ i _ => n - (intOf i).toNat)
 case atStart => exact ⟨0, by omega, rfl, rfl, HG1.out⟩
 case round =>
  obtain ⟨k, hk, rfl, rfl, hgw⟩ := hrel
  have HGW := hid hgw
  have hlen := HLE.out k
  have hlen2 := HTL.out k
  by_cases hlt : k < n
  ·
   have hkl : k < l.length := by rw [← HN.out]; exact hlt
   have hrd := hgw.rdA HRD.out HNW.out HLT.out
   obtain ⟨ga, o, rfl⟩ := shape_of hrd Ic_len (by decide) (by omega)
   have hki : (k : Int) < (n : Int) := by omega
   have HS := hid (HST.out k hkl)
   obtain ⟨SK, hSK⟩ : ∃ SK, (runL telt S (l.take k)).1 = SK := ⟨_, rfl⟩
   rw [hSK] at HGW HS
   obtain ⟨acc, hac⟩ : ∃ acc, (runL telt S (l.take k)).2 = acc := ⟨_, rfl⟩
   rw [hac] at hlen HS ⊢
   clear hSK hac
   have hcl : wr.cell? ⟨ga, o + k, none⟩ = some (.int .u64 (l[k] : Int)) := by
    have := range_of hrd Ic_len hkl 0 _ rfl
    rw [Nat.mul_one] at this
    exact this
   obtain ⟨bs, hbs⟩ : ∃ bs, (telt SK l[k]).2 = bs := ⟨_, rfl⟩
   obtain ⟨SN, hSN⟩ : ∃ SN, (telt SK l[k]).1 = SN := ⟨_, rfl⟩
   have hbl := telt_len SK l[k]
   rw [hbs] at HS hbl
   rw [hSN] at HS
   have HX : Hid (∀ fq W, Gk 57 p SK fq W → Calls Tryz.prog 103 #[.pointer (some ⟨p, 0, none⟩), .int .i64 5, .int .u64 (l[k] : Int)] W fun e w' => e = .returned (.string ⟨bs.toArray⟩) ∧ Gw 57 p W fq SN w') := hid fun fq W hg => by
    rw [← hbs, ← hSN]
    exact rfind_5 p fq SK l[k] W hg
   have hq : ¬ (9223372036854775807 < acc.length + bs.length) := by omega
   generalize l[k] = X at *
   clear hbs hSN hbl
   clear hrd hgw hlen hlen2
   go_wp2_with (go_at_call 103; refine (HGW.out.call (fun fq hk => HX.out fq wr hk)).mono ?_; rintro e w3 ⟨rfl, hg3⟩; have HG3 := hid hg3; clear hg3)
   exact ⟨⟨k + 1, by omega, by go_num, by rw [HS.out, ← cat_mk], by rw [HS.out]; exact HG3.out⟩, by simp [intOf]; omega⟩
  ·
   obtain rfl : k = n := by omega
   clear hgw
   go_wp2_with fail
   go_ret
   refine ⟨by rw [HEND.out]; rfl, ?_⟩
   rw [← HEND.out]
   obtain ⟨fq, k1, k2, k3⟩ := HGW.out
   have hs1 := HBW.out.size
   exact ⟨fq, k1, ((Fr.of_below HBW.out).mono (fq := fp) (by simp)).trans k2 (fun b hb _ => hb), fun g hg => by
    rcases k3 g hg with h | h
    ·
     exact .inl h
    ·
     right; omega⟩
theorem rdo_6 (p : Nat) (op : Int) (s : ByteArray) (w : World) (hs : s.size ≤ 140737488355328) (h2 : ¬ op = 2) (h3 : ¬ op = 3) (h4 : ¬ op = 4) (h5 : ¬ op = 5) :
  Calls Tryz.prog 59 #[.pointer (some ⟨p, 0, none⟩), .int .i64 op, .string s] w (SE w [1]) := by
 have HT := hid (fun W => rtaki_list s W hs)
 have HB0 : Hid (∀ W, Calls Tryz.prog 76 #[.int .i64 0] W (SE W [0])) := hid fun W => rbyte_any 0 W (by decide)
 have HB1 : Hid (∀ W, Calls Tryz.prog 76 #[.int .i64 1] W (SE W [1])) := hid fun W => rbyte_any 1 W (by decide)
 generalize takL 8 decI (sb s) = r at *
 obtain ⟨l, b⟩ := r
 have HT2 : Hid (∀ W, Calls Tryz.prog 102 #[.string s] W fun e w' => ∃ A c, e = .returned (.tuple #[.slice A l.length c, .bool b]) ∧ Below W.heap.size W w') := hid fun W => ((HT.out W).mono fun e w' ⟨A, c, h1, _, _, h2, _⟩ => ⟨A, c, h1, h2⟩)
 have e2 : (op == 2) = false := beq_eq_false_iff_ne.2 h2
 have e3 : (op == 3) = false := beq_eq_false_iff_ne.2 h3
 have e4 : (op == 4) = false := beq_eq_false_iff_ne.2 h4
 have e5 : (op == 5) = false := beq_eq_false_iff_ne.2 h5
 have n4 : (op != 4) = true := bne_iff_ne.2 h4
 have n5 : (op != 5) = true := bne_iff_ne.2 h5
 clear HT hs h2 h3 h4 h5
 cases b
 all_goals
  go_enter Tryz.func59, Tryz.ntmps59
  go_wp2_with (go_at_call 76; refine (HB0.out _).mono ?_; rintro e w1 ⟨rfl, hb1⟩; clear HB0)
  go_wp2_with (first
   | (go_at_call 102; refine (HT2.out _).mono ?_; rintro e w2 ⟨A, c, rfl, hb2⟩)
   | (go_at_call 76; refine (HB1.out _).mono ?_; rintro e w3 ⟨rfl, hb3⟩))
  go_ret
  exact ⟨rfl, hb1.trans ((hb2.trans (hb3.mono hb2.size)).mono hb1.size)⟩
theorem rdo_2 (p : Nat) (fp : List Nat) (S : Lg) (s : ByteArray) (w : World) (hs : s.size ≤ 140737488355328) (h : Gk 57 p S fp w) :
  Calls Tryz.prog 59 #[.pointer (some ⟨p, 0, none⟩), .int .i64 2, .string s] w fun e w' => e = .returned (.string ⟨(eachL mka S (takL 9 decA (sb s))).2.toArray⟩) ∧ Gw 57 p w fp (eachL mka S (takL 9 decA (sb s))).1 w' := by
 cases hb : (takL 9 decA (sb s)).2
 ·
  unfold eachL
  rw [if_neg (by rw [hb]; decide)]
  exact (rdo_2_no p s w hs hb).mono fun e w' hh => ⟨hh.1, (Gw.start h).below hh.2⟩
 ·
  unfold eachL
  rw [if_pos hb]
  exact rdo_2_yes p fp S s w hs h _ (Prod.ext rfl hb)
theorem rdo_3 (p : Nat) (fp : List Nat) (S : Lg) (s : ByteArray) (w : World) (hs : s.size ≤ 140737488355328) (h : Gk 57 p S fp w) :
  Calls Tryz.prog 59 #[.pointer (some ⟨p, 0, none⟩), .int .i64 3, .string s] w fun e w' => e = .returned (.string ⟨(eachL mkt S (takL 32 decT (sb s))).2.toArray⟩) ∧ Gw 57 p w fp (eachL mkt S (takL 32 decT (sb s))).1 w' := by
 cases hb : (takL 32 decT (sb s)).2
 ·
  unfold eachL
  rw [if_neg (by rw [hb]; decide)]
  exact (rdo_3_no p s w hs hb).mono fun e w' hh => ⟨hh.1, (Gw.start h).below hh.2⟩
 ·
  unfold eachL
  rw [if_pos hb]
  exact rdo_3_yes p fp S s w hs h _ (Prod.ext rfl hb)
theorem rdo_4 (p : Nat) (fp : List Nat) (S : Lg) (s : ByteArray) (w : World) (hs : s.size ≤ 140737488355328) (h : Gk 57 p S fp w) :
  Calls Tryz.prog 59 #[.pointer (some ⟨p, 0, none⟩), .int .i64 4, .string s] w fun e w' => e = .returned (.string ⟨(eachL tela S (takL 8 decI (sb s))).2.toArray⟩) ∧ Gw 57 p w fp (eachL tela S (takL 8 decI (sb s))).1 w' := by
 cases hb : (takL 8 decI (sb s)).2
 ·
  unfold eachL
  rw [if_neg (by rw [hb]; decide)]
  exact (rdo_4_no p s w hs hb).mono fun e w' hh => ⟨hh.1, (Gw.start h).below hh.2⟩
 ·
  unfold eachL
  rw [if_pos hb]
  exact rdo_4_yes p fp S s w hs h _ (Prod.ext rfl hb)
theorem rdo_5 (p : Nat) (fp : List Nat) (S : Lg) (s : ByteArray) (w : World) (hs : s.size ≤ 140737488355328) (h : Gk 57 p S fp w) :
  Calls Tryz.prog 59 #[.pointer (some ⟨p, 0, none⟩), .int .i64 5, .string s] w fun e w' => e = .returned (.string ⟨(eachL telt S (takL 8 decI (sb s))).2.toArray⟩) ∧ Gw 57 p w fp (eachL telt S (takL 8 decI (sb s))).1 w' := by
 cases hb : (takL 8 decI (sb s)).2
 ·
  unfold eachL
  rw [if_neg (by rw [hb]; decide)]
  exact (rdo_5_no p s w hs hb).mono fun e w' hh => ⟨hh.1, (Gw.start h).below hh.2⟩
 ·
  unfold eachL
  rw [if_pos hb]
  exact rdo_5_yes p fp S s w hs h _ (Prod.ext rfl hb)
theorem rdo_any (p : Nat) (fp : List Nat) (S : Lg) (s : ByteArray) (w : World) (hs : s.size ≤ 140737488355328) (h : Gk 57 p S fp w) (op : Int) :
  Calls Tryz.prog 59 #[.pointer (some ⟨p, 0, none⟩), .int .i64 op, .string s] w fun e w' => e = .returned (.string ⟨(S.doo op (sb s)).2.toArray⟩) ∧ Gw 57 p w fp (S.doo op (sb s)).1 w' := by
 unfold Lg.doo
 by_cases h2 : op = 2
 ·
  rw [if_pos h2]; subst h2; exact rdo_2 p fp S s w hs h
 rw [if_neg h2]
 by_cases h3 : op = 3
 ·
  rw [if_pos h3]; subst h3; exact rdo_3 p fp S s w hs h
 rw [if_neg h3]
 by_cases h4 : op = 4
 ·
  rw [if_pos h4]; subst h4; exact rdo_4 p fp S s w hs h
 rw [if_neg h4]
 by_cases h5 : op = 5
 ·
  rw [if_pos h5]; subst h5; exact rdo_5 p fp S s w hs h
 rw [if_neg h5]
 exact (rdo_6 p op s w hs h2 h3 h4 h5).mono fun e w' hh => ⟨hh.1, (Gw.start h).below hh.2⟩
theorem flat_take_le {α : Type} (f : α → List UInt8) (hf : ∀ x, (f x).length ≤ 32) (l : List α) (k : Nat) : ((l.take k).flatMap f).length ≤ k * 32 := by
 have h1 : ∀ m : List α, (m.flatMap f).length ≤ m.length * 32 := by
  intro m
  induction m with
  | nil => simp
  | cons x r ih =>
   have := hf x
   rw [List.flatMap_cons, List.length_append, List.length_cons, Nat.add_mul]
   omega
 have h2 := h1 (l.take k)
 have h3 : (l.take k).length * 32 ≤ k * 32 := Nat.mul_le_mul_right _ (List.length_take_le _ _)
 omega
theorem flat_take_step {α : Type} (f : α → List UInt8) (l : List α) (k : Nat) (h : k < l.length) : (l.take (k + 1)).flatMap f = (l.take k).flatMap f ++ f l[k] := by
 rw [List.take_succ_eq_append_getElem h, List.flatMap_append]
 simp
theorem rpack_any (p : Nat) (va vt : Value) (S : Lg) (w : World) (h : HasG w 57 p va vt S) : Calls Tryz.prog 48 #[.pointer (some ⟨p, 0, none⟩)] w (SE w S.pack) := by
 have hn8 := h.wf.la
 have hm16 := h.wf.lt
 obtain ⟨A, c, ev, hnc, hrdA⟩ := h.va_shape
 obtain ⟨A2, c2, et, hmc, hrdT⟩ := h.vt_shape
 have HC0 := hid (fun W (hW : Below w.heap.size w W) => (h.below hW).c0)
 have HC1 := hid (fun W (hW : Below w.heap.size w W) => (h.below hW).c1)
 rw [ev] at HC0
 rw [et] at HC1
 have hc0 := HC0.out w (Below.refl _ _)
 have HOA := hid (fun k (hk : k < S.A.length) => (h.wf.oa _ (List.getElem_mem hk)).1)
 have HOT := hid (fun k (hk : k < S.T.length) => h.wf.ot _ (List.getElem_mem hk))
 have HBY := hid (fun (n : Nat) W (h : (n : Int) ≤ 255) => rbyte_any n W h)
 have HRA := hid hrdA
 have HRT := hid hrdT
 have HPK : Hid (S.pack = (UInt8.ofNat S.A.length :: S.A.flatMap acB) ++ (UInt8.ofNat S.T.length :: S.T.flatMap trL)) := hid rfl
 obtain ⟨n, hn⟩ : ∃ n, S.A.length = n := ⟨_, rfl⟩
 obtain ⟨m, hm⟩ : ∃ m, S.T.length = m := ⟨_, rfl⟩
 have HNA := hid hn
 have HNT := hid hm
 rw [hn] at hnc hn8 HC0 hc0 HPK
 rw [hm] at hmc hm16 HC1 HPK
 have HBN := hid (fun W => HBY.out n W (by omega))
 have HBM := hid (fun W => HBY.out m W (by omega))
 have HLA := hid (fun k => flat_take_le acB (fun x => Nat.le_trans (acB_le x) (by omega)) S.A k)
 have HLT := hid (fun k => flat_take_le trL trL_le S.T k)
 have HSA := hid (fun k (hk : k < S.A.length) => flat_take_step acB S.A k hk)
 have HST := hid (fun k (hk : k < S.T.length) => flat_take_step trL S.T k hk)
 have HEA : Hid ((S.A.take n).flatMap acB = S.A.flatMap acB) := hid (by rw [List.take_of_length_le (by omega)])
 have HET : Hid ((S.T.take m).flatMap trL = S.T.flatMap trL) := hid (by rw [List.take_of_length_le (by omega)])
 have HZ := hid acSize
 clear h ev et hrdA hrdT hn hm HBY
 go_enter Tryz.func48, Tryz.ntmps48
 go_wp2_with (go_at_call 76; refine (HBN.out _).mono ?_; rintro e w1 ⟨rfl, hb1⟩; have HB1 := hid hb1; clear hb1)
 clear hc0
 go_loopw [3, 4] (fun sv i wr => ∃ k : Nat, k ≤ n ∧ i = .int .i64 (k : Int) ∧ sv = .string ⟨(UInt8.ofNat n :: (S.A.take k).flatMap acB).toArray⟩ ∧ Below w.heap.size w wr) (fun _ i _ => n - (intOf i).toNat)
 case atStart => exact ⟨0, by omega, rfl, rfl, HB1.out⟩
 case round =>
  obtain ⟨k, hk, rfl, rfl, hbe⟩ := hrel
  have HBE := hid hbe
  have hc0 := HC0.out wr hbe
  have hc1 := HC1.out wr hbe
  have hla := HLA.out k
  by_cases hlt : k < n
  ·
   have hkl : k < S.A.length := by rw [HNA.out]; exact hlt
   obtain ⟨g, o, rfl⟩ := shape_of HRA.out Ac.len (by decide) (by omega)
   have HRG := hid (range_of (HRA.out.below hbe (Nat.le_refl _)) Ac.len hkl)
   have HP := hid (fun W => rpw_any (S.A[k]'hkl) (HOA.out k hkl) W)
   have HS := hid (HSA.out k hkl)
   have hl := acB_le (S.A[k]'hkl)
   have HC4 : Hid ((Ac.cells (S.A[k]'hkl)).length = 4) := hid (Ac.len _)
   unfold acB at hl
   have HS2 : Hid ((S.A.take (k + 1)).flatMap acB = (S.A.take k).flatMap acB ++ (wholeB (S.A[k]'hkl)).1) := hid HS.out
   generalize wholeB (S.A[k]'hkl) = r at *
   obtain ⟨bs, er⟩ := r
   generalize Ac.cells (S.A[k]'hkl) = X at *
   have HS3 : Hid ((S.A.take (k + 1)).flatMap acB = (S.A.take k).flatMap acB ++ bs) := hid HS2.out
   obtain ⟨acc, hac⟩ : ∃ acc, UInt8.ofNat n :: (S.A.take k).flatMap acB = acc := ⟨_, rfl⟩
   have hal : acc.length ≤ 1 + k * 32 := by rw [← hac, List.length_cons]; omega
   have HAC : Hid (UInt8.ofNat n :: (S.A.take (k + 1)).flatMap acB = acc ++ bs) := hid (by rw [HS3.out, ← hac]; rfl)
   rw [hac]
   have hq : ¬ (9223372036854775807 < acc.length + bs.length) := by simp only at hl; omega
   have hki : (k : Int) < (n : Int) := by omega
   clear hac hal hl hla hbe HS HS2 HS3 hc1 hkl
   go_wp2_with (first
    | (refine wpList_load_mid rfl 80 (.tmp 31) rfl g (o + k * 4) rfl X _ HRG.out Tryz.underlying80 rfl (by rw [HC4.out]; exact HZ.out) ?_)
    | (go_at_call 77; refine (HP.out _).mono ?_; rintro e w2 ⟨rfl, hb2⟩))
   exact ⟨⟨k + 1, by omega, by go_num, by rw [HAC.out, ← cat_mk], HBE.out.trans (hb2.mono HBE.out.size)⟩, by simp [intOf]; omega⟩
  ·
   obtain rfl : k = n := by omega
   have HX1 : Hid (UInt8.ofNat k :: (S.A.take k).flatMap acB = UInt8.ofNat k :: S.A.flatMap acB) := hid (by rw [HEA.out])
   have hxl : (UInt8.ofNat k :: (S.A.take k).flatMap acB).length ≤ 1 + k * 32 := by rw [List.length_cons]; omega
   rw [HX1.out] at hxl ⊢
   generalize UInt8.ofNat k :: S.A.flatMap acB = x1 at *
   have hq : ¬ (9223372036854775807 < x1.length + 1) := by omega
   clear hbe hla HX1 HSA HEA
   go_wp2_with (go_at_call 76; refine (HBM.out _).mono ?_; rintro e w3 ⟨rfl, hb3⟩; have HB3 := hid (HBE.out.trans (hb3.mono HBE.out.size)); clear hb3)
   clear hc0 hc1 hq
   go_loopw [3, 7] (fun sv i wr => ∃ j : Nat, j ≤ m ∧ i = .int .i64 (j : Int) ∧ sv = .string ⟨(x1 ++ (UInt8.ofNat m :: (S.T.take j).flatMap trL)).toArray⟩ ∧ Below w.heap.size w wr) (fun _ i _ => m - (intOf i).toNat)
   case atStart => exact ⟨0, by omega, rfl, by rw [← cat_mk]; rfl, HB3.out⟩
   case round =>
    obtain ⟨j, hj, rfl, rfl, hbe⟩ := hrel
    have HBJ := hid hbe
    have hc1 := HC1.out wr hbe
    have hlt2 := HLT.out j
    by_cases hjm : j < m
    ·
     have hjl : j < S.T.length := by rw [HNT.out]; exact hjm
     obtain ⟨g2, o2, rfl⟩ := shape_of HRT.out Tr.len (by decide) (by omega)
     have hok := HOT.out j hjl
     have hone := rt_one (HRT.out.below hbe (Nat.le_refl _)) j hjl
     have HP := hid (rputt_list (some ⟨g2, o2 + j * 4, none⟩) [S.T[j]'hjl] 1 (c2 - j) w.heap.size wr hone rfl (by omega) hbe.size (by intro y hy; rw [List.mem_singleton.1 hy]; exact hok))
     rw [(one_t _ hok).1] at HP
     have HS := hid (HST.out j hjl)
     have hl := trL_le (S.T[j]'hjl)
     generalize trL (S.T[j]'hjl) = bs at *
     obtain ⟨acc, hac⟩ : ∃ acc, x1 ++ (UInt8.ofNat m :: (S.T.take j).flatMap trL) = acc := ⟨_, rfl⟩
     have hal : acc.length ≤ x1.length + (1 + j * 32) := by rw [← hac, List.length_append, List.length_cons]; omega
     have HAC : Hid (x1 ++ (UInt8.ofNat m :: (S.T.take (j + 1)).flatMap trL) = acc ++ bs) := hid (by rw [HS.out, ← hac]; simp)
     rw [hac]
     have hq : ¬ (9223372036854775807 < acc.length + bs.length) := by omega
     have hji : (j : Int) < (m : Int) := by omega
     have hj1 : (j : Int) + 1 ≤ (c2 : Int) := by omega
     have hj2 : ¬ c2 = j := by omega
     clear hac hal hl hlt2 hbe HS hok hone hjl
     go_wp2_with (go_at_call 78; refine HP.out.mono ?_; rintro e w4 ⟨rfl, hb4⟩)
     exact ⟨⟨j + 1, by omega, by go_num, by rw [HAC.out, ← cat_mk], HBJ.out.trans (hb4.mono HBJ.out.size)⟩, by simp [intOf]; omega⟩
    ·
     obtain rfl : j = m := by omega
     clear hbe hlt2
     go_wp2_with fail
     go_ret
     exact ⟨by rw [HPK.out, HET.out]; rfl, HBJ.out⟩
end Go.Proofs.YtgednnjmcjhfmaaGreatDoor
