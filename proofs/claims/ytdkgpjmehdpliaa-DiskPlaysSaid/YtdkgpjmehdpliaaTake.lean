/-
  The walk of take: the first bytes of a write last.
-/
import Derived.Test.YtdkgpjmehdpliaaRead
namespace Go.Proofs.Ytdkgpjmehdpliaa
open Go.RowKit

theorem splice_zero (s : Sec) (n : Nat) (b : List UInt8) (c : Nat) (hb : c ≤ b.length) (hs : s.lasts.length = 384) (hc : c ≤ 384) :
    splice (secCells s n) 0 (bvs (b.take c)) = secCells ⟨b.take c ++ s.lasts.drop c, s.marked⟩ n := by
  have hl : (bvs (b.take c)).length = c := by rw [bvs_len, List.length_take]; omega
  simp only [splice, secCells, List.take_zero, List.nil_append, Nat.zero_add, hl, bvs_app]
  rw [List.drop_append_of_le_length (by rw [bvs_len]; omega)]
  simp [bvs]
theorem sec_copy (secs : List Sec) (f : Nat → Nat) (h : ∀ s ∈ secs, s.lasts.length = 384) (i : Nat) (hi : i < secs.length) (b : List UInt8) (c : Nat) (hb : c ≤ b.length) (hc : c ≤ 384) :
    splice (secRows secs f).flatten (i * 386) (bvs (b.take c)) = (secRows (secs.set i ⟨b.take c ++ secs[i].lasts.drop c, secs[i].marked⟩) f).flatten := by
  have hl : (bvs (b.take c)).length = c := by rw [bvs_len, List.length_take]; omega
  have := flat_splice 386 (secRows secs f) i 0 (bvs (b.take c)) (by rw [secRows_n]; exact hi) (secRows_len secs f h) (by omega)
  rw [Nat.add_zero] at this
  rw [this, secRows_get secs f i hi, splice_zero _ _ b c hb (h _ (List.getElem_mem hi)) hc, secRows_set secs f f i _ _ hi rfl (fun _ _ => rfl)]
theorem sec_mark (secs : List Sec) (f : Nat → Nat) (h : ∀ s ∈ secs, s.lasts.length = 384) (i : Nat) (hi : i < secs.length) (m : Bool) :
    (secRows secs f).flatten.set (i * 386 + 384) (.bool m) = (secRows (secs.set i ⟨secs[i].lasts, m⟩) f).flatten := by
  rw [flat_set 386 (secRows secs f) i 384 _ (by rw [secRows_n]; exact hi) (secRows_len secs f h) (by omega), secRows_get secs f i hi]
  have hs := h _ (List.getElem_mem hi)
  have e : (secCells secs[i] (f i)).set 384 (.bool m) = secCells ⟨secs[i].lasts, m⟩ (f i) := by
    simp only [secCells]
    rw [List.set_append_right _ _ (by rw [bvs_len]; omega), bvs_len, hs]
    rfl
  rw [e, secRows_set secs f f i _ _ hi rfl (fun _ _ => rfl)]
theorem sec_new (secs : List Sec) (f f' : Nat → Nat) (h : ∀ s ∈ secs, s.lasts.length = 384) (i : Nat) (hi : i < secs.length) (n : Nat) (hn : n = f' i) (hf : ∀ j, j ≠ i → f' j = f j) :
    (secRows secs f).flatten.set (i * 386 + 385) (.int .i64 (n : Int)) = (secRows secs f').flatten := by
  rw [flat_set 386 (secRows secs f) i 385 _ (by rw [secRows_n]; exact hi) (secRows_len secs f h) (by omega), secRows_get secs f i hi]
  have hs := h _ (List.getElem_mem hi)
  have e : (secCells secs[i] (f i)).set 385 (.int .i64 (n : Int)) = secCells secs[i] n := by
    simp only [secCells]
    rw [List.set_append_right _ _ (by rw [bvs_len]; omega), bvs_len, hs]
    rfl
  rw [e, secRows_set secs f f' i _ _ hi hn hf]
  congr 2
  exact List.set_getElem_self hi
theorem sec_turn (secs : List Sec) (f : Nat → Nat) (h : ∀ s ∈ secs, s.lasts.length = 384) (i : Nat) (hi : i < secs.length) (a : Nat) (ha : a < 384) (b : UInt8) :
    (secRows secs f).flatten.set (i * 386 + a) (bv b) = (secRows (secs.set i ⟨secs[i].lasts.set a b, secs[i].marked⟩) f).flatten := by
  rw [flat_set 386 (secRows secs f) i a _ (by rw [secRows_n]; exact hi) (secRows_len secs f h) (by omega), secRows_get secs f i hi]
  have hs := h _ (List.getElem_mem hi)
  have e : (secCells secs[i] (f i)).set a (bv b) = secCells ⟨secs[i].lasts.set a b, secs[i].marked⟩ (f i) := by
    simp only [secCells]
    rw [List.set_append_left _ _ (by rw [bvs_len]; omega)]
    simp [bvs, List.map_set]
  rw [e, secRows_set secs f f i _ _ hi rfl (fun _ _ => rfl)]
theorem set_wf (secs : List Sec) (h : ∀ s ∈ secs, s.lasts.length = 384) (i : Nat) (s : Sec) (hs : s.lasts.length = 384) : ∀ s' ∈ secs.set i s, s'.lasts.length = 384 := by
  intro s' hs'
  rcases List.mem_or_eq_of_mem_set hs' with h' | rfl
  · exact h s' h'
  · exact hs
theorem takeS_len (s : Sec) (b : List UInt8) (c : Nat) (hs : s.lasts.length = 384) (hb : b.length = 384) (hc : c ≤ 384) : (takeS s b c).lasts.length = 384 := by
  simp only [takeS, List.length_append, List.length_take, List.length_drop, hs, hb]; omega

/-- what take does to a row of sectors -/
theorem take_row {w1 : World} {gs i c : Nat} {secs : List Sec} {f : Nat → Nat} {b : List UInt8} (h : ∀ s ∈ secs, s.lasts.length = 384) (hi : i < secs.length) (hb : b.length = 384) (hc : c ≤ 384)
    (hr : Row w1 gs 69 (splice (secRows secs f).flatten (i * 386) (bvs (b.take c)))) :
    (c = 0 → Row w1 gs 69 (secRows (secs.set i (takeS secs[i] b c)) f).flatten) ∧
    (0 < c → ∀ m, m = decide (c < 384) → Row (w1.setCell ⟨gs, i * 386 + 384, none⟩ (.bool m)) gs 69 (secRows (secs.set i (takeS secs[i] b c)) f).flatten) ∧ (∃ u, w1.cell? ⟨gs, i * 386 + 384, none⟩ = some u) := by
  rw [sec_copy secs f h i hi b c (by omega) hc] at hr
  have hl : ∀ s' ∈ secs.set i ⟨b.take c ++ secs[i].lasts.drop c, secs[i].marked⟩, s'.lasts.length = 384 := by
    refine set_wf secs h i _ ?_
    have := takeS_len secs[i] b c (h _ (List.getElem_mem hi)) hb hc
    exact this
  have hi' : i < (secs.set i ⟨b.take c ++ secs[i].lasts.drop c, secs[i].marked⟩).length := by simpa using hi
  refine ⟨?_, ?_, ?_⟩
  · intro h0
    have e : takeS secs[i] b c = ⟨b.take c ++ secs[i].lasts.drop c, secs[i].marked⟩ := by unfold takeS; rw [if_pos h0]
    rw [e]
    exact hr
  · intro h0 m hm
    have e : takeS secs[i] b c = ⟨b.take c ++ secs[i].lasts.drop c, m⟩ := by unfold takeS; rw [if_neg (by omega), hm]
    have := hr.set_ (i * 386 + 384) (.bool m)
    rw [sec_mark _ f hl i hi' m, List.set_set] at this
    rw [e]
    simpa using this
  · exact ⟨_, hr.at_ _ _ (sec_marked _ f hl i hi')⟩

set_option maxRecDepth 10000 in
set_option maxHeartbeats 400000 in
theorem take_any (gs i c : Nat) (secs : List Sec) (f : Nat → Nat) (b : List UInt8) (A : Option Addr) (B : Nat) (w : World) (h : ∀ s ∈ secs, s.lasts.length = 384) (hi : i < secs.length) (hb : b.length = 384) (hc : c ≤ 384)
    (hr : Row w gs 69 (secRows secs f).flatten) (ha : Rd w B A (bvs (b.take c))) :
    Calls Try.prog 46 #[.pointer (some ⟨gs, i * 386, none⟩), .slice A c 384] w fun e w' => e = .returned (.tuple #[]) ∧ Row w' gs 69 (secRows (secs.set i (takeS secs[i] b c)) f).flatten ∧ Fr w w' [gs] := by
  have hl : (bvs (b.take c)).length = c := by rw [bvs_len, List.length_take]; omega
  have f1 : Hid (Rd w B A (bvs (b.take c))) := hid ha
  have f2 : Hid ((bvs (b.take c)).length = Nat.min c 384) := hid (by rw [hl]; exact (Nat.min_eq_left hc).symm)
  have f3 : Hid (0 < (bvs (b.take c)).length → (some (⟨gs, i * 386, none⟩ : Addr)) = some ⟨gs, i * 386, none⟩) := hid (fun _ => rfl)
  have f4 : Hid (i * 386 + (bvs (b.take c)).length ≤ (secRows secs f).flatten.length) := hid (by rw [hl, flat_length 386 _ (secRows_len secs f h), secRows_n]; omega)
  have f5 := hid (bvs_one (b.take c))
  have HT := hid (fun w1 hr1 => take_row (w1 := w1) (gs := gs) (c := c) (f := f) h hi hb hc hr1)
  have HR := hid hr
  clear hl hr ha h hb
  by_cases h0 : c = 0
  · subst h0
    go_enter Try.func46, Try.ntmps46
    go_wp2_with (with_reducible refine wpl_copy rfl (.tmp 7) (.tmp 8) 59 59 rfl 5 Try.underlying59 rfl (some ⟨gs, i * 386, none⟩) A 384 384 0 384 rfl rfl gs (i * 386) _ _ HR.out B (bvs (b.take 0)) ?_ f1 f2 f3 f4 f5; intro w1 HR1 HG1; obtain ⟨k1, k2, u, hu⟩ := HT.out w1 HR1; have hfz := HR1.frozen (i * 386 + 384); have K1 := hid k1; have K2 := hid k2; clear k1 k2)
    go_end0
    exact ⟨rfl, K1.out (by trivial), (Fr.refl w [gs]).grown HG1 (by intro k hk; cases hk; simp)⟩
  · by_cases h3 : c = 384
    · subst h3
      go_enter Try.func46, Try.ntmps46
      go_wp2_with (with_reducible refine wpl_copy rfl (.tmp 7) (.tmp 8) 59 59 rfl 5 Try.underlying59 rfl (some ⟨gs, i * 386, none⟩) A 384 384 384 384 rfl rfl gs (i * 386) _ _ HR.out B (bvs (b.take 384)) ?_ f1 f2 f3 f4 f5; intro w1 HR1 HG1; obtain ⟨k1, k2, u, hu⟩ := HT.out w1 HR1; have hfz := HR1.frozen (i * 386 + 384); have K1 := hid k1; have K2 := hid k2; clear k1 k2)
      go_end0
      exact ⟨rfl, K2.out (by omega) false rfl, ((Fr.refl w [gs]).grown HG1 (by intro k hk; cases hk; simp)).setCell (p := ⟨gs, i * 386 + 384, none⟩) (by simp) _⟩
    · have h0' : ((c : Int) == 0) = false := by simp; omega
      have h3' : ((c : Int) == 384) = false := by simp; omega
      have HC := hid h0
      have HC3 := hid h3
      clear h0 h3
      go_enter Try.func46, Try.ntmps46
      go_wp2_with (with_reducible refine wpl_copy rfl (.tmp 7) (.tmp 8) 59 59 rfl 5 Try.underlying59 rfl (some ⟨gs, i * 386, none⟩) A 384 384 c 384 rfl rfl gs (i * 386) _ _ HR.out B (bvs (b.take c)) ?_ f1 f2 f3 f4 f5; intro w1 HR1 HG1; obtain ⟨k1, k2, u, hu⟩ := HT.out w1 HR1; have hfz := HR1.frozen (i * 386 + 384); have K1 := hid k1; have K2 := hid k2; clear k1 k2)
      go_end0
      exact ⟨rfl, K2.out (by have := HC.out; omega) true (by have := HC3.out; simp; omega), ((Fr.refl w [gs]).grown HG1 (by intro k hk; cases hk; simp)).setCell (p := ⟨gs, i * 386 + 384, none⟩) (by simp) _⟩
end Go.Proofs.Ytdkgpjmehdpliaa
