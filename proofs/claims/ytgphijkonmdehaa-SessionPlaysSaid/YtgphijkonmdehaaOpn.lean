/-
  The walk of package session's Open.
-/
import Derived.Test.YtgphijkonmdehaaRom
namespace Go.Proofs.Ytgphijkonmdehaa
open Go.RowKit
set_option maxRecDepth 10000

/-- a number and an error's number -/
def NN (w : World) (a b : Int) (e : Ending) (w' : World) : Prop := e = .returned (.tuple #[.int .i64 a, .int .i64 b]) ∧ Below w.heap.size w w'
theorem opn_nil (c o : Int) (w : World) : Calls Try.prog 18 #[.pointer none, .int .i64 c, .int .i64 o] w (NN w 0 2) := by
  go_enter Try.func18, Try.ntmps18
  go_wp2_with fail
  go_ret2
  exact ⟨rfl, Below.refl _ _⟩
theorem vend {va : Value} {g H cap n : Nat} (h : va.ownBlock = some g ∨ g = H + 1) : ∀ b, (Value.slice (some ⟨g, 0, none⟩) n cap).ownBlock = some b → va.ownBlock = some b ∨ H ≤ b := by
  intro b hb
  obtain rfl : g = b := by simpa [Value.ownBlock] using hb
  rcases h with h | h
  · exact .inl h
  · right; omega
theorem app_fact {w3 w4 : World} {X p : Nat} {v : Value} {T : List Ss} {ob : Obj} (h3 : HasT w3 X p v T) (hg : (w3.alloc ob).grownBy w4 v.ownBlock) :
    Row w4 p X [v] ∧ Fr w3 w4 v.ownBlock.toList := by
  have hf : Fr w3 w4 v.ownBlock.toList := ((Fr.refl w3 v.ownBlock.toList).alloc ob).grown hg (by intro b hb; exact .inl (by simp [hb]))
  exact ⟨hf.row h3.box (by simpa using h3.n1), hf⟩
section
variable (p : Nat) (c o : Int) (w : World)
set_option maxHeartbeats 400000 in
theorem opn_1a (h : c = 0) : Calls Try.prog 18 #[.pointer (some ⟨p, 0, none⟩), .int .i64 c, .int .i64 o] w (NN w 0 1) := by
  subst h
  go_enter Try.func18, Try.ntmps18
  go_wp2_with (first
    | (go_at_call 34; refine (HN1.out _).mono ?_; rintro e w3 ⟨rfl, rfl⟩; clear HN1)
    | (go_at_call 34; refine (HN2.out _).mono ?_; rintro e w3 ⟨rfl, rfl⟩))
  go_ret2
  exact ⟨rfl, Below.refl _ _⟩
set_option maxHeartbeats 400000 in
theorem opn_1b (h : c ≠ 0) (h2 : o = 0) : Calls Try.prog 18 #[.pointer (some ⟨p, 0, none⟩), .int .i64 c, .int .i64 o] w (NN w 0 1) := by
  subst h2
  have e1 : (c == 0) = false := beq_eq_false_iff_ne.2 h
  clear h
  go_enter Try.func18, Try.ntmps18
  go_wp2_with (first
    | (go_at_call 34; refine (HN1.out _).mono ?_; rintro e w3 ⟨rfl, rfl⟩; clear HN1)
    | (go_at_call 34; refine (HN2.out _).mono ?_; rintro e w3 ⟨rfl, rfl⟩))
  go_ret2
  exact ⟨rfl, Below.refl _ _⟩
set_option maxHeartbeats 400000 in
theorem opn_1c (h : c ≠ 0) (h2 : o ≠ 0) (h3 : ¬ Fit c) : Calls Try.prog 18 #[.pointer (some ⟨p, 0, none⟩), .int .i64 c, .int .i64 o] w (NN w 0 1) := by
  have e1 : (c == 0) = false := beq_eq_false_iff_ne.2 h
  have e2 : (o == 0) = false := beq_eq_false_iff_ne.2 h2
  have HN1 := hid (fun W => num_no c W h3)
  clear h h2 h3
  go_enter Try.func18, Try.ntmps18
  go_wp2_with (first
    | (go_at_call 34; refine (HN1.out _).mono ?_; rintro e w3 ⟨rfl, rfl⟩; clear HN1)
    | (go_at_call 34; refine (HN2.out _).mono ?_; rintro e w3 ⟨rfl, rfl⟩))
  go_ret2
  exact ⟨rfl, Below.refl _ _⟩
set_option maxHeartbeats 400000 in
theorem opn_1d (h : c ≠ 0) (h2 : o ≠ 0) (h3 : Fit c) (h4 : ¬ Fit o) : Calls Try.prog 18 #[.pointer (some ⟨p, 0, none⟩), .int .i64 c, .int .i64 o] w (NN w 0 1) := by
  have e1 : (c == 0) = false := beq_eq_false_iff_ne.2 h
  have e2 : (o == 0) = false := beq_eq_false_iff_ne.2 h2
  have HN1 := hid (fun W => num_yes c W h3.1 h3.2)
  have HN2 := hid (fun W => num_no o W h4)
  clear h h2 h3 h4
  go_enter Try.func18, Try.ntmps18
  go_wp2_with (first
    | (go_at_call 34; refine (HN1.out _).mono ?_; rintro e w3 ⟨rfl, rfl⟩; clear HN1)
    | (go_at_call 34; refine (HN2.out _).mono ?_; rintro e w3 ⟨rfl, rfl⟩))
  go_ret2
  exact ⟨rfl, Below.refl _ _⟩
theorem opn_1 (h : ¬ Fit1 c ∨ ¬ Fit1 o) : Calls Try.prog 18 #[.pointer (some ⟨p, 0, none⟩), .int .i64 c, .int .i64 o] w (NN w 0 1) := by
  by_cases h1 : c = 0
  · exact opn_1a p c o w h1
  by_cases h2 : o = 0
  · exact opn_1b p c o w h1 h2
  by_cases h3 : Fit c
  · exact opn_1d p c o w h1 h2 h3 (by omega)
  · exact opn_1c p c o w h1 h2 h3
set_option maxHeartbeats 400000 in
theorem opn_7 (v : Value) (T : List Ss) (h : HasT w 54 p v T) (h1 : Fit1 c) (h2 : Fit1 o) (hk : pl T c < T.length) : Calls Try.prog 18 #[.pointer (some ⟨p, 0, none⟩), .int .i64 c, .int .i64 o] w (NN w 0 7) := by
  obtain ⟨g, cc, -, -, hg⟩ := own_some h.own (by omega : 0 < T.length)
  have HO := hid (of_yes p g (pl T c) v T c w h hg rfl hk)
  have e1 : (c == 0) = false := beq_eq_false_iff_ne.2 (by omega)
  have e2 : (o == 0) = false := beq_eq_false_iff_ne.2 (by omega)
  have HN1 := hid (fun W => num_yes c W (by omega) h1.2)
  have HN2 := hid (fun W => num_yes o W (by omega) h2.2)
  generalize pl T c = k at *
  clear h hg hk h1 h2
  go_enter Try.func18, Try.ntmps18
  go_wp2_with (first
    | (go_at_call 34; refine (HN1.out _).mono ?_; rintro e w3 ⟨rfl, rfl⟩; clear HN1)
    | (go_at_call 34; refine (HN2.out _).mono ?_; rintro e w3 ⟨rfl, rfl⟩)
    | (go_at_call 26; refine HO.out.mono ?_; rintro e w2 ⟨rfl, hb2⟩))
  go_ret2
  exact ⟨rfl, hb2⟩
set_option maxHeartbeats 1000000 in
theorem opn_0 (v : Value) (T : List Ss) (h : HasT w 54 p v T) (h1 : Fit1 c) (h2 : Fit1 o) (hk : ¬ pl T c < T.length) : Calls Try.prog 18 #[.pointer (some ⟨p, 0, none⟩), .int .i64 c, .int .i64 o] w fun e w' => e = .returned (.tuple #[.int .i64 (gone T), .int .i64 0]) ∧ Gw 54 p w (fpT p v) (room T ++ [fresh c o]) w' := by
  obtain ⟨i0, hi, hz0, hz1, hz2⟩ := info_parts ssInfo
  have HO := hid (of_no p v T c w h hk)
  have HRM := hid (fun W (hW : Below w.heap.size w W) => room_any p (fpT p v) T W ⟨v, rfl, h.below hW⟩)
  have e1 : (c == 0) = false := beq_eq_false_iff_ne.2 (by omega)
  have e2 : (o == 0) = false := beq_eq_false_iff_ne.2 (by omega)
  have HN1 := hid (fun W => num_yes c W (by omega) h1.2)
  have HN2 := hid (fun W => num_yes o W (by omega) h2.2)
  have HWF : Hid (WF (room T ++ [fresh c o])) := hid (by
    have := opn_wf h.wf c o
    have e : opnE T c o = 0 := by unfold opnE; rw [if_neg (by omega), if_neg hk]
    unfold opn at this
    rw [if_pos e] at this
    exact this)
  have HR2 := hid (room_le h.wf.le)
  generalize gone T = who at *
  generalize room T = U at *
  have HFC : Hid (Ss.cells (fresh c o) = [.int .i64 c, .int .i64 o, .int .i64 0, .int .i64 o, .string ⟨#[]⟩]) := hid rfl
  have HNW : Hid (∀ W : World, ∀ j u, (Ss.cells (fresh c o))[j]? = some u → (W.alloc (.cells #[.int .i64 c, .int .i64 o, .int .i64 0, .int .i64 o, .string ⟨#[]⟩] 37)).cell? ((⟨W.heap.size, 0, none⟩ : Addr).add j) = some u) := hid fun W j u hu => World.news_of_block (heap_alloc_new W (.cells #[.int .i64 c, .int .i64 o, .int .i64 0, .int .i64 o, .string ⟨#[]⟩] 37)) j u hu
  clear h hk h1 h2
  go_enter Try.func18, Try.ntmps18
  go_wp2_with (first
    | (go_at_call 34; refine (HN1.out _).mono ?_; rintro e w3 ⟨rfl, rfl⟩; clear HN1)
    | (go_at_call 34; refine (HN2.out _).mono ?_; rintro e w3 ⟨rfl, rfl⟩)
    | (go_at_call 26; refine HO.out.mono ?_; rintro e w2 ⟨rfl, hb2⟩; have HB2 := hid hb2; clear hb2)
    | (go_at_call 35; refine (HRM.out _ HB2.out).mono ?_; rintro e w3 ⟨rfl, fq, hk3, hf3, hat3⟩; obtain ⟨v3, rfl, h3⟩ := hk3; have hc3 := h3.c0; have H3 := hid h3; have HF3 := hid hf3; have HAT3 := hid hat3; clear hf3 hat3 h3)
    | (refine wpl_slice1 rfl 27 37 (.tmp 41) rfl i0 _ 5 Try.underlying27 hi hz0 hz1 (by decide) (by decide) [.int .i64 c, .int .i64 o, .int .i64 0, .int .i64 o, .string ⟨#[]⟩] rfl rfl ?_)
    | (refine wpList_append_lies _ rfl (.tmp 37) (.tmp 42) 27 rfl 0 37 i0 _ 5 48 Try.underlying27 hi hz0 hz1 hz2 rfl (by decide) v3 U.length _ rfl (H3.out.own.alloc _) ⟨w3.heap.size, 0, none⟩ 1 1 (Ss.cells (fresh c o)) rfl rfl (HNW.out w3) (Ss.ones _) (by decide) (le_maxLen (by have := HR2.out; omega)) (by have := HR2.out; omega) (Nat.zero_le _) (w3.heap.size + 1) (by simp) ?_; intro g cap w4 ho4 hg4 hat4 hlt4; have HA4 := hid (app_fact H3.out hg4); have HO4 := hid ho4; have HAT4 := hid hat4; have hc4 := HA4.out.1.at_ 0 _ rfl; have hf4 := HA4.out.1.frozen 0; clear ho4 hg4 hat4 hlt4))
  go_ret2
  have hM := H3.out.put (v' := .slice (some ⟨g, 0, none⟩) (U.length + 1) cap) (T' := U ++ [fresh c o]) HA4.out.2 (by have h := HO4.out; rw [List.length_append, rows_app, rows1]; exact h) (vend HAT4.out) HWF.out
  have hG : Gw 54 p w2 (fpT p v) (U ++ [fresh c o]) (w4.setCell ⟨p, 0, none⟩ (.slice (some ⟨g, 0, none⟩) (U.length + 1) cap)) := by
    refine Gw.step (S := U) (w' := w3) ⟨fpT p v3, ⟨v3, rfl, H3.out⟩, HF3.out, HAT3.out⟩ ?_
    rintro fq ⟨v4, rfl, h4⟩
    have e : v4 = v3 := by have := h4.c0; rw [H3.out.c0] at this; exact (Option.some.inj this).symm
    subst e
    exact ⟨_, ⟨_, rfl, hM.1⟩, hM.2.1, hM.2.2⟩
  refine ⟨rfl, ?_⟩
  obtain ⟨fq, a1, a2, a3⟩ := hG
  refine ⟨fq, a1, ((Fr.of_below HB2.out).mono (fq := fpT p v) (by simp)).trans a2 (by intro b hb _; exact hb), fun b hb => ?_⟩
  rcases a3 b hb with h | h
  · exact .inl h
  · have := HB2.out.size
    right; omega
end
theorem opn_any (p : Nat) (fp : List Nat) (T : List Ss) (c o : Int) (w : World) (h : Gk 54 p T fp w) : Calls Try.prog 18 #[.pointer (some ⟨p, 0, none⟩), .int .i64 c, .int .i64 o] w fun e w' => e = .returned (.tuple #[.int .i64 (opnL T c o), .int .i64 (opnE T c o)]) ∧ Gw 54 p w fp (opn T c o) w' := by
  have hG := h
  obtain ⟨v, rfl, h⟩ := h
  unfold opnL opn
  by_cases h1 : ¬ Fit1 c ∨ ¬ Fit1 o
  · have e : opnE T c o = 1 := by unfold opnE; rw [if_pos h1]
    rw [e, if_neg (by decide), if_neg (by decide)]
    exact (opn_1 p c o w h1).mono fun e w' hh => ⟨hh.1, (Gw.start hG).below hh.2⟩
  · by_cases h2 : pl T c < T.length
    · have e : opnE T c o = 7 := by unfold opnE; rw [if_neg h1, if_pos h2]
      rw [e, if_neg (by decide), if_neg (by decide)]
      exact (opn_7 p c o w v T h (by omega) (by omega) h2).mono fun e w' hh => ⟨hh.1, (Gw.start hG).below hh.2⟩
    · have e : opnE T c o = 0 := by unfold opnE; rw [if_neg h1, if_neg h2]
      rw [e, if_pos rfl, if_pos rfl]
      exact opn_0 p c o w v T h (by omega) (by omega) h2
end Go.Proofs.Ytgphijkonmdehaa
