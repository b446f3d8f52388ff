/-
  The walks of the laws' awake, of opened and of SessionVerdicts.
-/
import Derived.Test.YtgphijkonmdehaaOpn
namespace Go.Proofs.Ytgphijkonmdehaa
open Go.RowKit
set_option maxRecDepth 10000

section
variable {w0 w : World} {p : Nat} {T : List Ss}
theorem Sk.ver (h : Sk w0 54 p T w) (c s r : Int) : Calls Try.prog 20 #[.pointer (some ⟨p, 0, none⟩), .int .i64 c, .int .i64 s, .int .i64 r] w (VE w (.int .i64 (ver T c s r))) := by
  obtain ⟨fp, h1, _⟩ := h
  exact ver_any p fp T c s r w h1
theorem Sk.opn (h : Sk w0 54 p T w) (c o : Int) : Calls Try.prog 18 #[.pointer (some ⟨p, 0, none⟩), .int .i64 c, .int .i64 o] w fun e w' => e = .returned (.tuple #[.int .i64 (opnL T c o), .int .i64 (opnE T c o)]) ∧ Sk w0 54 p (opn T c o) w' := h.call (fun fp hk => opn_any p fp T c o w hk)
theorem Sk.not (h : Sk w0 54 p T w) (c r o : Int) (t : ByteArray) : Calls Try.prog 21 #[.pointer (some ⟨p, 0, none⟩), .int .i64 c, .int .i64 r, .int .i64 o, .string t] w fun e w' => e = .returned (.int .i64 (notE T c r o t)) ∧ Sk w0 54 p (note T c r o t) w' := h.call (fun fp hk => not_any p fp T c r o t w hk)
theorem Sk.listed (h : Sk w0 54 p T w) : Calls Try.prog 15 #[.pointer (some ⟨p, 0, none⟩)] w (LS Ss.cells w T) := by
  obtain ⟨fp, h1, _⟩ := h
  exact list_any p fp T w h1
theorem looked_sk (h : Sk w0 54 p T w) (c : Int) : Calls Try.prog 12 #[.pointer (some ⟨p, 0, none⟩), .int .i64 c] w (LK w (look T c) (looks T c)) := by
  obtain ⟨fp, h1, _⟩ := h
  exact look_any p fp T c w h1
end
def awT : List Ss := [fresh 7 1]
def awU : List Ss := [⟨7, 1, 1, 2, ⟨#[97]⟩⟩]
set_option maxHeartbeats 1000000 in
theorem awake_any (w : World) : Calls Try.prog 8 #[] w (VE w (.bool true)) := by
  have HO : Hid (∀ p W, Sk w 54 p [] W → Calls Try.prog 18 #[.pointer (some ⟨p, 0, none⟩), .int .i64 7, .int .i64 1] W fun e w' => e = .returned (.tuple #[.int .i64 0, .int .i64 0]) ∧ Sk w 54 p awT w') := hid fun p W h => h.opn 7 1
  have HN : Hid (∀ p W, Sk w 54 p awT W → Calls Try.prog 21 #[.pointer (some ⟨p, 0, none⟩), .int .i64 7, .int .i64 1, .int .i64 2, .string ⟨#[97]⟩] W fun e w' => e = .returned (.int .i64 0) ∧ Sk w 54 p awU w') := hid fun p W h => h.not 7 1 2 ⟨#[97]⟩
  have HV0 : Hid (∀ p W, Sk w 54 p awU W → Calls Try.prog 20 #[.pointer (some ⟨p, 0, none⟩), .int .i64 7, .int .i64 1, .int .i64 1] W (VE W (.int .i64 2))) := hid fun p W h => h.ver 7 1 1
  have HV1 : Hid (∀ p W, Sk w 54 p awU W → Calls Try.prog 20 #[.pointer (some ⟨p, 0, none⟩), .int .i64 7, .int .i64 1, .int .i64 2] W (VE W (.int .i64 1))) := hid fun p W h => h.ver 7 1 2
  have HV2 : Hid (∀ p W, Sk w 54 p awU W → Calls Try.prog 20 #[.pointer (some ⟨p, 0, none⟩), .int .i64 7, .int .i64 2, .int .i64 2] W (VE W (.int .i64 5))) := hid fun p W h => h.ver 7 2 2
  have HV3 : Hid (∀ p W, Sk w 54 p awU W → Calls Try.prog 20 #[.pointer (some ⟨p, 0, none⟩), .int .i64 7, .int .i64 1, .int .i64 3] W (VE W (.int .i64 4))) := hid fun p W h => h.ver 7 1 3
  generalize awT = T at *
  generalize awU = U at *
  go_enter Try.func8, Try.ntmps8
  go_wp2_with (first
    | (go_at_call 9; refine (new_any _).mono ?_; rintro e w1 ⟨p, fp, rfl, hk, hf, hx⟩; have HSK := hid (Sk.mk' (Below.refl _ _) hk hf hx); clear hk hf hx)
    | (go_at_call 18; refine (HO.out _ _ HSK.out).mono ?_; rintro e w2 ⟨rfl, hsk⟩; replace HSK := hid hsk; clear hsk HO)
    | (go_at_call 21; refine (HN.out _ _ HSK.out).mono ?_; rintro e w2 ⟨rfl, hsk⟩; replace HSK := hid hsk; clear hsk HN)
    | (go_at_call 20; refine (HV0.out _ _ HSK.out).mono ?_; rintro e w2 ⟨rfl, hb⟩; replace HSK := hid (HSK.out.below hb); clear hb HV0)
    | (go_at_call 20; refine (HV1.out _ _ HSK.out).mono ?_; rintro e w2 ⟨rfl, hb⟩; replace HSK := hid (HSK.out.below hb); clear hb HV1)
    | (go_at_call 20; refine (HV2.out _ _ HSK.out).mono ?_; rintro e w2 ⟨rfl, hb⟩; replace HSK := hid (HSK.out.below hb); clear hb HV2)
    | (go_at_call 20; refine (HV3.out _ _ HSK.out).mono ?_; rintro e w2 ⟨rfl, hb⟩; replace HSK := hid (HSK.out.below hb); clear hb HV3))
  go_ret
  exact ⟨rfl, HSK.out.frame⟩

/-! ### SessionVerdicts -/
section
variable (c o l a : Int) (w : World)
theorem pl_fresh : pl [fresh c o] c = 0 := pl_this (Nat.zero_le _) (by simp) rfl
theorem opnE_nil (h1 : Fit1 c) (h2 : Fit1 o) : opnE [] c o = 0 := by
  unfold opnE
  rw [if_neg (by omega), if_neg (by simp)]
set_option maxHeartbeats 400000 in
theorem opened_1 (h : ¬ Fit1 c ∨ ¬ Fit1 o) : Calls Try.prog 22 #[.int .i64 c, .int .i64 o, .int .i64 l, .int .i64 a] w (VE w (.pointer none)) := by
  have e : opnE [] c o = 1 := by unfold opnE; rw [if_pos h]
  have HO : Hid (∀ p W, Sk w 54 p [] W → Calls Try.prog 18 #[.pointer (some ⟨p, 0, none⟩), .int .i64 c, .int .i64 o] W fun e w' => e = .returned (.tuple #[.int .i64 0, .int .i64 1]) ∧ Sk w 54 p [] w') := hid fun p W h => by
    have := h.opn c o
    unfold opnL opn at this
    rw [e, if_neg (by decide), if_neg (by decide)] at this
    exact this
  clear e h
  go_enter Try.func22, Try.ntmps22
  go_wp2_with (first
    | (go_at_call 9; refine (new_any _).mono ?_; rintro e w1 ⟨p, fp, rfl, hk, hf, hx⟩; have HSK := hid (Sk.mk' (Below.refl _ _) hk hf hx); clear hk hf hx)
    | (go_at_call 18; refine (HO.out _ _ HSK.out).mono ?_; rintro e w2 ⟨rfl, hsk⟩; replace HSK := hid hsk; clear hsk HO))
  go_ret
  exact ⟨rfl, HSK.out.frame⟩
set_option maxHeartbeats 400000 in
theorem opened_2 (h1 : Fit1 c) (h2 : Fit1 o) (h3 : 72057594037927935 ≤ c) : Calls Try.prog 22 #[.int .i64 c, .int .i64 o, .int .i64 l, .int .i64 a] w (VE w (.pointer none)) := by
  have e := opnE_nil c o h1 h2
  have HO : Hid (∀ p W, Sk w 54 p [] W → Calls Try.prog 18 #[.pointer (some ⟨p, 0, none⟩), .int .i64 c, .int .i64 o] W fun e w' => e = .returned (.tuple #[.int .i64 0, .int .i64 0]) ∧ Sk w 54 p [fresh c o] w') := hid fun p W h => by
    have := h.opn c o
    unfold opnL opn at this
    rw [e, if_pos rfl, if_pos rfl] at this
    exact this
  clear e h1 h2
  go_enter Try.func22, Try.ntmps22
  go_wp2_with (first
    | (go_at_call 9; refine (new_any _).mono ?_; rintro e w1 ⟨p, fp, rfl, hk, hf, hx⟩; have HSK := hid (Sk.mk' (Below.refl _ _) hk hf hx); clear hk hf hx)
    | (go_at_call 18; refine (HO.out _ _ HSK.out).mono ?_; rintro e w2 ⟨rfl, hsk⟩; replace HSK := hid hsk; clear hsk HO))
  go_ret
  exact ⟨rfl, HSK.out.frame⟩
set_option maxHeartbeats 400000 in
theorem opened_3 (h1 : Fit1 c) (h2 : Fit1 o) (h3 : c < 72057594037927935) (h4 : ¬ Fit l ∨ ¬ Fit a) : Calls Try.prog 22 #[.int .i64 c, .int .i64 o, .int .i64 l, .int .i64 a] w (VE w (.pointer none)) := by
  have e := opnE_nil c o h1 h2
  have HO : Hid (∀ p W, Sk w 54 p [] W → Calls Try.prog 18 #[.pointer (some ⟨p, 0, none⟩), .int .i64 c, .int .i64 o] W fun e w' => e = .returned (.tuple #[.int .i64 0, .int .i64 0]) ∧ Sk w 54 p [fresh c o] w') := hid fun p W h => by
    have := h.opn c o
    unfold opnL opn at this
    rw [e, if_pos rfl, if_pos rfl] at this
    exact this
  have e2 : notE [fresh c o] c l a ⟨#[]⟩ = 1 := by
    unfold notE
    rw [pl_fresh, if_neg (by simp), if_pos h4]
  have HN : Hid (∀ p W, Sk w 54 p [fresh c o] W → Calls Try.prog 21 #[.pointer (some ⟨p, 0, none⟩), .int .i64 c, .int .i64 l, .int .i64 a, .string ⟨#[]⟩] W fun e w' => e = .returned (.int .i64 1) ∧ Sk w 54 p [fresh c o] w') := hid fun p W h => by
    have := h.not c l a ⟨#[]⟩
    unfold note at this
    rw [e2, if_neg (by decide)] at this
    exact this
  clear e e2 h1 h2 h4
  go_enter Try.func22, Try.ntmps22
  go_wp2_with (first
    | (go_at_call 9; refine (new_any _).mono ?_; rintro e w1 ⟨p, fp, rfl, hk, hf, hx⟩; have HSK := hid (Sk.mk' (Below.refl _ _) hk hf hx); clear hk hf hx)
    | (go_at_call 18; refine (HO.out _ _ HSK.out).mono ?_; rintro e w2 ⟨rfl, hsk⟩; replace HSK := hid hsk; clear hsk HO)
    | (go_at_call 21; refine (HN.out _ _ HSK.out).mono ?_; rintro e w2 ⟨rfl, hsk⟩; replace HSK := hid hsk; clear hsk HN))
  go_ret
  exact ⟨rfl, HSK.out.frame⟩
set_option maxHeartbeats 400000 in
theorem opened_0 (h1 : Fit1 c) (h2 : Fit1 o) (h3 : c < 72057594037927935) (h4 : Fit l) (h5 : Fit a) : Calls Try.prog 22 #[.int .i64 c, .int .i64 o, .int .i64 l, .int .i64 a] w fun e w' => ∃ p, e = .returned (.pointer (some ⟨p, 0, none⟩)) ∧ Sk w 54 p [⟨c, o, l, a, ⟨#[]⟩⟩] w' := by
  have e := opnE_nil c o h1 h2
  have HO : Hid (∀ p W, Sk w 54 p [] W → Calls Try.prog 18 #[.pointer (some ⟨p, 0, none⟩), .int .i64 c, .int .i64 o] W fun e w' => e = .returned (.tuple #[.int .i64 0, .int .i64 0]) ∧ Sk w 54 p [fresh c o] w') := hid fun p W h => by
    have := h.opn c o
    unfold opnL opn at this
    rw [e, if_pos rfl, if_pos rfl] at this
    exact this
  have e2 : notE [fresh c o] c l a ⟨#[]⟩ = 0 := by
    unfold notE
    rw [pl_fresh, if_neg (by simp), if_neg (by omega), if_neg (by show ¬ 200 < 0; omega)]
  have HN : Hid (∀ p W, Sk w 54 p [fresh c o] W → Calls Try.prog 21 #[.pointer (some ⟨p, 0, none⟩), .int .i64 c, .int .i64 l, .int .i64 a, .string ⟨#[]⟩] W fun e w' => e = .returned (.int .i64 0) ∧ Sk w 54 p [⟨c, o, l, a, ⟨#[]⟩⟩] w') := hid fun p W h => by
    have := h.not c l a ⟨#[]⟩
    unfold note at this
    rw [e2, if_pos rfl, pl_fresh] at this
    exact this
  clear e e2 h1 h2 h4 h5
  go_enter Try.func22, Try.ntmps22
  go_wp2_with (first
    | (go_at_call 9; refine (new_any _).mono ?_; rintro e w1 ⟨p, fp, rfl, hk, hf, hx⟩; have HSK := hid (Sk.mk' (Below.refl _ _) hk hf hx); clear hk hf hx)
    | (go_at_call 18; refine (HO.out _ _ HSK.out).mono ?_; rintro e w2 ⟨rfl, hsk⟩; replace HSK := hid hsk; clear hsk HO)
    | (go_at_call 21; refine (HN.out _ _ HSK.out).mono ?_; rintro e w2 ⟨rfl, hsk⟩; replace HSK := hid hsk; clear hsk HN))
  go_ret
  exact ⟨p, rfl, HSK.out⟩
end
theorem ver_one (c o l a : Int) (s r : Int) : ver [⟨c, o, l, a, ⟨#[]⟩⟩] c s r = if o ≠ s then 5 else if r = l + 1 then 1 else if r = l then 2 else if r < l then 3 else 4 := by
  have e : pl [⟨c, o, l, a, ⟨#[]⟩⟩] c = 0 := pl_this (Nat.zero_le _) (by simp) rfl
  unfold ver
  rw [e, if_neg (by simp)]
  rfl
theorem ver_none (c o l a : Int) (c' s r : Int) (h : c ≠ c') : ver [⟨c, o, l, a, ⟨#[]⟩⟩] c' s r = 5 := by
  unfold ver
  rw [if_pos (pl_none (by intro x hx; rw [List.mem_singleton.1 hx]; exact h))]
section
variable (c o l a s r : Int) (w : World)
set_option maxHeartbeats 400000 in
theorem verd_no (H : Hid (∀ W, Calls Try.prog 22 #[.int .i64 c, .int .i64 o, .int .i64 l, .int .i64 a] W (VE W (.pointer none)))) : Calls Try.prog 7 #[.int .i64 c, .int .i64 o, .int .i64 l, .int .i64 a, .int .i64 s, .int .i64 r] w (VE w (.bool true)) := by
  have HAW := hid awake_any
  go_enter Try.func7, Try.ntmps7
  go_wp2_with (first
    | (go_at_call 8; refine (HAW.out _).mono ?_; rintro e w1 ⟨rfl, hx⟩; have HBB := hid hx; clear hx)
    | (go_at_call 22; refine (H.out _).mono ?_; rintro e w2 ⟨rfl, hx⟩; have HB2 := hid hx; clear hx))
  go_ret
  exact ⟨rfl, HBB.out.trans (HB2.out.mono HBB.out.size)⟩
set_option maxHeartbeats 400000 in
theorem verd_gone (h1 : Fit1 c) (h2 : Fit1 o) (h3 : c < 72057594037927935) (h4 : Fit l) (h5 : Fit a) (h6 : s ≠ o) : Calls Try.prog 7 #[.int .i64 c, .int .i64 o, .int .i64 l, .int .i64 a, .int .i64 s, .int .i64 r] w (VE w (.bool true)) := by
  have HAW := hid awake_any
  have HOP := hid (fun W => opened_0 c o l a W h1 h2 h3 h4 h5)
  have q1 : (s != o) = true := bne_iff_ne.2 h6
  have q2 := h1.1
  have HV1 : Hid (∀ p W W0, Sk W0 54 p [⟨c, o, l, a, ⟨#[]⟩⟩] W → Calls Try.prog 20 #[.pointer (some ⟨p, 0, none⟩), .int .i64 c, .int .i64 s, .int .i64 r] W (VE W (.int .i64 5))) := hid fun p W W0 h => by
    have := h.ver c s r
    rw [ver_one, if_pos (fun e => h6 e.symm)] at this
    exact this
  have HV2 : Hid (∀ p W W0, Sk W0 54 p [⟨c, o, l, a, ⟨#[]⟩⟩] W → Calls Try.prog 20 #[.pointer (some ⟨p, 0, none⟩), .int .i64 (c + 1), .int .i64 o, .int .i64 r] W (VE W (.int .i64 5))) := hid fun p W W0 h => by
    have := h.ver (c + 1) o r
    rw [ver_none c o l a (c + 1) o r (by omega)] at this
    exact this
  obtain ⟨T, hT⟩ : ∃ T : List Ss, T = [⟨c, o, l, a, ⟨#[]⟩⟩] := ⟨_, rfl⟩
  rw [← hT] at HOP HV1 HV2
  obtain ⟨k1, k2⟩ := h4
  clear hT h6
  go_enter Try.func7, Try.ntmps7
  go_wp2_with (first
    | (go_at_call 8; refine (HAW.out _).mono ?_; rintro e w1 ⟨rfl, hx⟩; have HBB := hid hx; clear hx)
    | (go_at_call 22; refine (HOP.out _).mono ?_; rintro e w2 ⟨p, rfl, hx⟩; have HSK := hid hx; clear hx)
    | (go_at_call 20; refine (HV1.out _ _ _ HSK.out).mono ?_; rintro e w3 ⟨rfl, hx⟩; replace HSK := hid (HSK.out.below hx); clear hx HV1)
    | (go_at_call 20; refine (HV2.out _ _ _ HSK.out).mono ?_; rintro e w3 ⟨rfl, hx⟩; replace HSK := hid (HSK.out.below hx); clear hx HV2))
  go_ret
  exact ⟨rfl, HBB.out.trans (HSK.out.frame.mono HBB.out.size)⟩
set_option maxHeartbeats 400000 in
theorem verd_fresh (h1 : Fit1 c) (h2 : Fit1 o) (h3 : c < 72057594037927935) (h4 : Fit l) (h5 : Fit a) (h6 : r = l + 1) : Calls Try.prog 7 #[.int .i64 c, .int .i64 o, .int .i64 l, .int .i64 a, .int .i64 o, .int .i64 r] w (VE w (.bool true)) := by
  have HAW := hid awake_any
  have HOP := hid (fun W => opened_0 c o l a W h1 h2 h3 h4 h5)
  have q1 : l < r := by omega
  have q2 : r ≤ 72057594037927936 := by omega
  have HV1 : Hid (∀ p W W0, Sk W0 54 p [⟨c, o, l, a, ⟨#[]⟩⟩] W → Calls Try.prog 20 #[.pointer (some ⟨p, 0, none⟩), .int .i64 c, .int .i64 o, .int .i64 r] W (VE W (.int .i64 1))) := hid fun p W W0 h => by
    have := h.ver c o r
    rw [ver_one, if_neg (by simp), if_pos h6] at this
    exact this
  have HV2 : Hid (∀ p W W0, Sk W0 54 p [⟨c, o, l, a, ⟨#[]⟩⟩] W → Calls Try.prog 20 #[.pointer (some ⟨p, 0, none⟩), .int .i64 c, .int .i64 o, .int .i64 (r - 1)] W (VE W (.int .i64 2))) := hid fun p W W0 h => by
    have := h.ver c o (r - 1)
    rw [ver_one, if_neg (by simp), if_neg (by omega), if_pos (by omega)] at this
    exact this
  obtain ⟨T, hT⟩ : ∃ T : List Ss, T = [⟨c, o, l, a, ⟨#[]⟩⟩] := ⟨_, rfl⟩
  rw [← hT] at HOP HV1 HV2
  obtain ⟨k1, k2⟩ := h4
  clear hT h6
  go_enter Try.func7, Try.ntmps7
  go_wp2_with (first
    | (go_at_call 8; refine (HAW.out _).mono ?_; rintro e w1 ⟨rfl, hx⟩; have HBB := hid hx; clear hx)
    | (go_at_call 22; refine (HOP.out _).mono ?_; rintro e w2 ⟨p, rfl, hx⟩; have HSK := hid hx; clear hx)
    | (go_at_call 20; refine (HV1.out _ _ _ HSK.out).mono ?_; rintro e w3 ⟨rfl, hx⟩; replace HSK := hid (HSK.out.below hx); clear hx HV1)
    | (go_at_call 20; refine (HV2.out _ _ _ HSK.out).mono ?_; rintro e w3 ⟨rfl, hx⟩; replace HSK := hid (HSK.out.below hx); clear hx HV2))
  go_ret
  exact ⟨rfl, HBB.out.trans (HSK.out.frame.mono HBB.out.size)⟩
set_option maxHeartbeats 400000 in
theorem verd_again (h1 : Fit1 c) (h2 : Fit1 o) (h3 : c < 72057594037927935) (h4 : Fit l) (h5 : Fit a) (h6 : r = l) : Calls Try.prog 7 #[.int .i64 c, .int .i64 o, .int .i64 l, .int .i64 a, .int .i64 o, .int .i64 r] w (VE w (.bool true)) := by
  have HAW := hid awake_any
  have HOP := hid (fun W => opened_0 c o l a W h1 h2 h3 h4 h5)
  have q1 : (r == l) = true := beq_iff_eq.2 h6
  have HV1 : Hid (∀ p W W0, Sk W0 54 p [⟨c, o, l, a, ⟨#[]⟩⟩] W → Calls Try.prog 20 #[.pointer (some ⟨p, 0, none⟩), .int .i64 c, .int .i64 o, .int .i64 r] W (VE W (.int .i64 2))) := hid fun p W W0 h => by
    have := h.ver c o r
    rw [ver_one, if_neg (by simp), if_neg (by omega), if_pos h6] at this
    exact this
  obtain ⟨T, hT⟩ : ∃ T : List Ss, T = [⟨c, o, l, a, ⟨#[]⟩⟩] := ⟨_, rfl⟩
  rw [← hT] at HOP HV1
  obtain ⟨k1, k2⟩ := h4
  clear hT h6
  go_enter Try.func7, Try.ntmps7
  go_wp2_with (first
    | (go_at_call 8; refine (HAW.out _).mono ?_; rintro e w1 ⟨rfl, hx⟩; have HBB := hid hx; clear hx)
    | (go_at_call 22; refine (HOP.out _).mono ?_; rintro e w2 ⟨p, rfl, hx⟩; have HSK := hid hx; clear hx)
    | (go_at_call 20; refine (HV1.out _ _ _ HSK.out).mono ?_; rintro e w3 ⟨rfl, hx⟩; replace HSK := hid (HSK.out.below hx); clear hx HV1)
    | fail)
  go_ret
  exact ⟨rfl, HBB.out.trans (HSK.out.frame.mono HBB.out.size)⟩
set_option maxHeartbeats 400000 in
theorem verd_old (h1 : Fit1 c) (h2 : Fit1 o) (h3 : c < 72057594037927935) (h4 : Fit l) (h5 : Fit a) (h6 : r < l) : Calls Try.prog 7 #[.int .i64 c, .int .i64 o, .int .i64 l, .int .i64 a, .int .i64 o, .int .i64 r] w (VE w (.bool true)) := by
  have HAW := hid awake_any
  have HOP := hid (fun W => opened_0 c o l a W h1 h2 h3 h4 h5)
  have q1 : decide (r < l) = true := decide_eq_true h6
  have HV1 : Hid (∀ p W W0, Sk W0 54 p [⟨c, o, l, a, ⟨#[]⟩⟩] W → Calls Try.prog 20 #[.pointer (some ⟨p, 0, none⟩), .int .i64 c, .int .i64 o, .int .i64 r] W (VE W (.int .i64 3))) := hid fun p W W0 h => by
    have := h.ver c o r
    rw [ver_one, if_neg (by simp), if_neg (by omega), if_neg (by omega), if_pos h6] at this
    exact this
  obtain ⟨T, hT⟩ : ∃ T : List Ss, T = [⟨c, o, l, a, ⟨#[]⟩⟩] := ⟨_, rfl⟩
  rw [← hT] at HOP HV1
  obtain ⟨k1, k2⟩ := h4
  clear hT h6
  go_enter Try.func7, Try.ntmps7
  go_wp2_with (first
    | (go_at_call 8; refine (HAW.out _).mono ?_; rintro e w1 ⟨rfl, hx⟩; have HBB := hid hx; clear hx)
    | (go_at_call 22; refine (HOP.out _).mono ?_; rintro e w2 ⟨p, rfl, hx⟩; have HSK := hid hx; clear hx)
    | (go_at_call 20; refine (HV1.out _ _ _ HSK.out).mono ?_; rintro e w3 ⟨rfl, hx⟩; replace HSK := hid (HSK.out.below hx); clear hx HV1)
    | fail)
  go_ret
  exact ⟨rfl, HBB.out.trans (HSK.out.frame.mono HBB.out.size)⟩
set_option maxHeartbeats 400000 in
theorem verd_ahead1 (h1 : Fit1 c) (h2 : Fit1 o) (h3 : c < 72057594037927935) (h4 : Fit l) (h5 : Fit a) (h6 : r = l + 1 + 1) : Calls Try.prog 7 #[.int .i64 c, .int .i64 o, .int .i64 l, .int .i64 a, .int .i64 o, .int .i64 r] w (VE w (.bool true)) := by
  have HAW := hid awake_any
  have HOP := hid (fun W => opened_0 c o l a W h1 h2 h3 h4 h5)
  have q1 : l < r := by omega
  have q2 : r ≤ 72057594037927937 := by omega
  have HV1 : Hid (∀ p W W0, Sk W0 54 p [⟨c, o, l, a, ⟨#[]⟩⟩] W → Calls Try.prog 20 #[.pointer (some ⟨p, 0, none⟩), .int .i64 c, .int .i64 o, .int .i64 r] W (VE W (.int .i64 4))) := hid fun p W W0 h => by
    have := h.ver c o r
    rw [ver_one, if_neg (by simp), if_neg (by omega), if_neg (by omega), if_neg (by omega)] at this
    exact this
  have HV2 : Hid (∀ p W W0, Sk W0 54 p [⟨c, o, l, a, ⟨#[]⟩⟩] W → Calls Try.prog 20 #[.pointer (some ⟨p, 0, none⟩), .int .i64 c, .int .i64 o, .int .i64 (r - 1)] W (VE W (.int .i64 1))) := hid fun p W W0 h => by
    have := h.ver c o (r - 1)
    rw [ver_one, if_neg (by simp), if_pos (by omega)] at this
    exact this
  obtain ⟨T, hT⟩ : ∃ T : List Ss, T = [⟨c, o, l, a, ⟨#[]⟩⟩] := ⟨_, rfl⟩
  rw [← hT] at HOP HV1 HV2
  obtain ⟨k1, k2⟩ := h4
  clear hT h6
  go_enter Try.func7, Try.ntmps7
  go_wp2_with (first
    | (go_at_call 8; refine (HAW.out _).mono ?_; rintro e w1 ⟨rfl, hx⟩; have HBB := hid hx; clear hx)
    | (go_at_call 22; refine (HOP.out _).mono ?_; rintro e w2 ⟨p, rfl, hx⟩; have HSK := hid hx; clear hx)
    | (go_at_call 20; refine (HV1.out _ _ _ HSK.out).mono ?_; rintro e w3 ⟨rfl, hx⟩; replace HSK := hid (HSK.out.below hx); clear hx HV1)
    | (go_at_call 20; refine (HV2.out _ _ _ HSK.out).mono ?_; rintro e w3 ⟨rfl, hx⟩; replace HSK := hid (HSK.out.below hx); clear hx HV2))
  go_ret
  exact ⟨rfl, HBB.out.trans (HSK.out.frame.mono HBB.out.size)⟩
set_option maxHeartbeats 400000 in
theorem verd_ahead2 (h1 : Fit1 c) (h2 : Fit1 o) (h3 : c < 72057594037927935) (h4 : Fit l) (h5 : Fit a) (h6 : l + 1 + 1 < r) (h7 : r ≤ 9223372036854775807) : Calls Try.prog 7 #[.int .i64 c, .int .i64 o, .int .i64 l, .int .i64 a, .int .i64 o, .int .i64 r] w (VE w (.bool true)) := by
  have HAW := hid awake_any
  have HOP := hid (fun W => opened_0 c o l a W h1 h2 h3 h4 h5)
  have q1 : l < r := by omega
  have HV1 : Hid (∀ p W W0, Sk W0 54 p [⟨c, o, l, a, ⟨#[]⟩⟩] W → Calls Try.prog 20 #[.pointer (some ⟨p, 0, none⟩), .int .i64 c, .int .i64 o, .int .i64 r] W (VE W (.int .i64 4))) := hid fun p W W0 h => by
    have := h.ver c o r
    rw [ver_one, if_neg (by simp), if_neg (by omega), if_neg (by omega), if_neg (by omega)] at this
    exact this
  have HV2 : Hid (∀ p W W0, Sk W0 54 p [⟨c, o, l, a, ⟨#[]⟩⟩] W → Calls Try.prog 20 #[.pointer (some ⟨p, 0, none⟩), .int .i64 c, .int .i64 o, .int .i64 (r - 1)] W (VE W (.int .i64 4))) := hid fun p W W0 h => by
    have := h.ver c o (r - 1)
    rw [ver_one, if_neg (by simp), if_neg (by omega), if_neg (by omega), if_neg (by omega)] at this
    exact this
  obtain ⟨T, hT⟩ : ∃ T : List Ss, T = [⟨c, o, l, a, ⟨#[]⟩⟩] := ⟨_, rfl⟩
  rw [← hT] at HOP HV1 HV2
  obtain ⟨k1, k2⟩ := h4
  clear hT h6
  go_enter Try.func7, Try.ntmps7
  go_wp2_with (first
    | (go_at_call 8; refine (HAW.out _).mono ?_; rintro e w1 ⟨rfl, hx⟩; have HBB := hid hx; clear hx)
    | (go_at_call 22; refine (HOP.out _).mono ?_; rintro e w2 ⟨p, rfl, hx⟩; have HSK := hid hx; clear hx)
    | (go_at_call 20; refine (HV1.out _ _ _ HSK.out).mono ?_; rintro e w3 ⟨rfl, hx⟩; replace HSK := hid (HSK.out.below hx); clear hx HV1)
    | (go_at_call 20; refine (HV2.out _ _ _ HSK.out).mono ?_; rintro e w3 ⟨rfl, hx⟩; replace HSK := hid (HSK.out.below hx); clear hx HV2))
  go_ret
  exact ⟨rfl, HBB.out.trans (HSK.out.frame.mono HBB.out.size)⟩
theorem verdicts_any (h7 : r ≤ 9223372036854775807) : Calls Try.prog 7 #[.int .i64 c, .int .i64 o, .int .i64 l, .int .i64 a, .int .i64 s, .int .i64 r] w (VE w (.bool true)) := by
  by_cases h1 : Fit1 c ∧ Fit1 o
  · by_cases h3 : c < 72057594037927935
    · by_cases h4 : Fit l ∧ Fit a
      · by_cases h6 : s = o
        · subst h6
          by_cases k1 : r = l + 1
          · exact verd_fresh c s l a r w h1.1 h1.2 h3 h4.1 h4.2 k1
          by_cases k2 : r = l
          · exact verd_again c s l a r w h1.1 h1.2 h3 h4.1 h4.2 k2
          by_cases k3 : r < l
          · exact verd_old c s l a r w h1.1 h1.2 h3 h4.1 h4.2 k3
          by_cases k4 : r = l + 1 + 1
          · exact verd_ahead1 c s l a r w h1.1 h1.2 h3 h4.1 h4.2 k4
          · exact verd_ahead2 c s l a r w h1.1 h1.2 h3 h4.1 h4.2 (by omega) h7
        · exact verd_gone c o l a s r w h1.1 h1.2 h3 h4.1 h4.2 h6
      · exact verd_no c o l a s r w (hid fun W => opened_3 c o l a W h1.1 h1.2 h3 (by omega))
    · exact verd_no c o l a s r w (hid fun W => opened_2 c o l a W h1.1 h1.2 (by omega))
  · exact verd_no c o l a s r w (hid fun W => opened_1 c o l a W (by omega))
end
end Go.Proofs.Ytgphijkonmdehaa
