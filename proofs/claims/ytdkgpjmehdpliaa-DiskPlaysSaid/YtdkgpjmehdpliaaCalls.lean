/-
  The disk's calls, each in every state: Write, Flush, Start.
-/
import Derived.Test.YtdkgpjmehdpliaaWrite
namespace Go.Proofs.Ytdkgpjmehdpliaa
open Go.RowKit

theorem DE.same {w : World} {p gs : Nat} {vw : Value} {S : Sp} {x : Int} (h : HasD w p gs vw S) : DE w p gs vw (S, x) (.returned (.int .i64 x)) w := ⟨vw, rfl, h, Fr.refl _ _, fun _ hg => .inl hg⟩
theorem DE.one {w w' : World} {p gs : Nat} {vw : Value} {S : Sp} {x : Int} (h : HasD w' p gs vw S) (hf : Fr w w' [p]) : DE w p gs vw (S, x) (.returned (.int .i64 x)) w' :=
  ⟨vw, rfl, h, hf.mono (by simp [fpD]), fun _ hg => .inl hg⟩

set_option maxRecDepth 10000 in
theorem write_arg (p gs : Nat) (vw : Value) (S : Sp) (i : Int) (s : ByteArray) (w : World) (h : HasD w p gs vw S) (hi : ¬ S.is i ∨ s.size ≠ 384) :
    Calls Try.prog 24 #[dptr p, .int .i64 i, .string s] w (DE w p gs vw (S, 1)) := by
  have HH := hid h
  by_cases h1 : S.is i
  · have hsz : ((s.size : Int) != 384) = true := by
      rcases hi with hi | hi
      · exact absurd h1 hi
      · exact bne_iff_ne.2 (by omega)
    obtain ⟨h2, h3⟩ := h1
    clear hi
    unfold dptr
    go_enter Try.func24, Try.ntmps24
    go_wp2_with (go_at_call 38; refine (has_yes _ p gs vw S _ h h2 h3).mono ?_; rintro e w1 ⟨rfl, rfl⟩)
    go_ret
    exact DE.same HH.out
  · clear hi
    unfold dptr
    go_enter Try.func24, Try.ntmps24
    go_wp2_with (go_at_call 38; refine (has_no _ p gs vw S _ h h1).mono ?_; rintro e w1 ⟨rfl, rfl⟩)
    go_ret
    exact DE.same HH.out
set_option maxRecDepth 10000 in
theorem write_down (p gs : Nat) (vw : Value) (S : Sp) (i : Int) (s : ByteArray) (w : World) (h : HasD w p gs vw S) (hi : S.is i) (hs : s.size = 384) (hc : S.count ≤ 1048576) (hg : S.goes.2 = 6) :
    Calls Try.prog 24 #[dptr p, .int .i64 i, .string s] w (DE w p gs vw (S.goes.1, 6)) := by
  have hsz : (s.size : Int) = 384 := by omega
  obtain ⟨h2, h3⟩ := hi
  have HG := goes_any p gs vw S w h (by omega)
  rw [hg] at HG
  have HGG := hid HG
  clear HG hg hs
  unfold dptr at *
  go_enter Try.func24, Try.ntmps24
  go_wp2_with (first
    | (go_at_call 38; refine (has_yes _ p gs vw S _ h h2 h3).mono ?_; rintro e w1 ⟨rfl, rfl⟩)
    | (go_at_call 43; refine HGG.out.mono ?_; rintro e w1 ⟨rfl, h1, hf1⟩; have H1 := hid h1; have HF1 := hid hf1; clear h1 hf1))
  go_ret
  exact DE.one H1.out HF1.out
theorem Sp.goes_cases (S : Sp) : S.goes.2 = 6 ∨ (S.on = true ∧ S.left ≠ 1 ∧ S.goes.2 = 0) := by
  cases ho : S.on with
  | false => exact .inl (by rw [Sp.goes_off ho])
  | true =>
    by_cases h1 : S.left = 1
    · exact .inl (by rw [Sp.goes_one ho h1])
    · exact .inr ⟨rfl, h1, by rw [Sp.goes_more ho h1]⟩
theorem Sp.goes_six {S : Sp} (h : S.goes.2 = 6) : S.goes = (S.goes.1, 6) := Prod.ext rfl h

theorem write_any (p gs : Nat) (vw : Value) (S : Sp) (i : Int) (s : ByteArray) (w : World) (h : HasD w p gs vw S) (hc : S.count ≤ 1048576) :
    Calls Try.prog 24 #[dptr p, .int .i64 i, .string s] w (DE w p gs vw (S.write i (sb s))) := by
  by_cases h1 : ¬ S.is i ∨ s.size ≠ 384
  · have e : S.write i (sb s) = (S, 1) := by unfold Sp.write; rw [if_pos (by rw [sb_len]; exact h1)]
    rw [e]
    exact write_arg p gs vw S i s w h h1
  · have h2 : S.is i := Classical.byContradiction fun h => h1 (.inl h)
    have h3 : s.size = 384 := Classical.byContradiction fun h => h1 (.inr h)
    rcases S.goes_cases with hg | ⟨ho, hl, _⟩
    · have e : S.write i (sb s) = (S.goes.1, 6) := by unfold Sp.write; rw [if_neg (by rw [sb_len]; exact h1), if_neg (by rw [hg]; decide), Sp.goes_six hg]
      rw [e]
      exact write_down p gs vw S i s w h h2 h3 hc hg
    · obtain ⟨k, rfl⟩ := Int.eq_ofNat_of_zero_le h2.1
      exact write_ok p gs vw S k s w h (by have := h2.2; omega) h3 ho hl hc

theorem flush_any (p gs : Nat) (vw : Value) (S : Sp) (w : World) (h : HasD w p gs vw S) (hc : S.count ≤ 1048576) :
    Calls Try.prog 26 #[dptr p] w (DE w p gs vw S.flush) := by
  have hway := h.wf.less
  rcases S.goes_cases with hg | ⟨ho, hl, _⟩
  · have e : S.flush = (S.goes.1, 6) := by unfold Sp.flush; rw [if_neg (by rw [hg]; decide), Sp.goes_six hg]
    rw [e]
    have HG := goes_any p gs vw S w h (by omega)
    rw [hg] at HG
    have HGG := hid HG
    clear HG hg e
    unfold dptr at *
    go_enter Try.func26, Try.ntmps26
    go_wp2_with (go_at_call 43; refine HGG.out.mono ?_; rintro e w1 ⟨rfl, h1, hf1⟩; have H1 := hid h1; have HF1 := hid hf1; clear h1 hf1)
    go_ret
    exact DE.one H1.out HF1.out
  · have e : S.flush = ({ S with left := S.left - 1, count := S.count + 1, secs := sett (fun _ => 384) S.way S.secs, way := [] }, 0) := by
      unfold Sp.flush
      rw [Sp.goes_more ho hl, if_pos rfl]
    rw [e]
    clear e
    unfold dptr
    go_enter Try.func26, Try.ntmps26
    go_wp2_with (first
      | (go_at_call 43; refine (goes_more p gs vw S _ h ho hl (by omega)).mono ?_; rintro e w1 ⟨rfl, h1, hf1⟩; have HF1 := hid hf1; clear hf1)
      | (go_at_call 40; refine (settF_calls p gs vw _ _ h1 (by show S.way.length ≤ _; omega)).mono ?_; rintro e w2 ⟨rfl, h2, hf2⟩; have H2 := hid h2; have HF2 := hid hf2; clear h2 hf2))
    go_ret
    exact ⟨_, rfl, H2.out, ((HF1.out.mono (by simp [fpD])).trans HF2.out (by intro b hb _; simp at hb; rcases hb with rfl | rfl <;> simp [fpD])), fun g hg => by simp [Value.ownBlock] at hg⟩

theorem on_put {w : World} {p gs : Nat} {vw : Value} {S : Sp} (h : HasD w p gs vw S) : HasD (w.setCell ⟨p, 2, none⟩ (.bool true)) p gs vw { S with on := true } ∧ Fr w (w.setCell ⟨p, 2, none⟩ (.bool true)) [p] := by
  have hf : Fr w (w.setCell ⟨p, 2, none⟩ (.bool true)) [p] := (Fr.refl w [p]).setCell (p := ⟨p, 2, none⟩) (by simp) _
  exact ⟨h.put (l := S.left) (c := S.count) hf (h.disk.set_ 2 _) h.wf.left h.wf.less, hf⟩

theorem start_any (p gs : Nat) (vw : Value) (S : Sp) (picks : List Int) (A : Option Addr) (c B : Nat) (w : World) (h : HasD w p gs vw S) (hc : S.count ≤ 1048576) (hr : Rd w B A (ints picks)) (hp : ∀ x ∈ picks, x ≤ 9223372036854775807) (hpn : picks.length ≤ 9223372036854775807) (hB : picks ≠ [] → ∀ g o, A = some ⟨g, o, none⟩ → g ≠ gs) :
    Calls Try.prog 23 #[dptr p, .slice A picks.length c] w (DE w p gs vw (S.start picks)) := by
  have hway := h.wf.less
  have hbox := Row.new w 32 #[.slice A picks.length c]
  have hfa : Fr w (w.alloc (.cells #[.slice A picks.length c] 32)) [] := (Fr.refl w []).alloc _
  have h1 := h.fr hfa (by simp)
  have c2 := h1.c2
  have c1 := h1.c1
  have hpl := h.disk.lt
  have hgl := h.secs.lt
  cases ho : S.on with
  | true =>
    have e : S.start picks = (S, 10) := by unfold Sp.start; rw [if_pos ho]
    rw [e]
    rw [ho] at c2
    have HO := hid ho
    have H1 := hid h1
    have HF := hid hfa
    clear e ho h1 hfa
    unfold dptr
    go_enter Try.func23, Try.ntmps23
    go_wp2_with fail
    go_ret
    exact ⟨vw, rfl, H1.out, HF.out.mono (by simp), fun _ hg => .inl hg⟩
  | false =>
    have e : S.start picks = ({ S with secs := sett (pickOf picks) S.way S.secs, way := [], on := true }, 0) := by unfold Sp.start; rw [if_neg (by simp [ho])]
    rw [e]
    rw [ho] at c2
    have HO := hid ho
    have H1 := hid h1
    have HF := hid hfa
    have HB := hid hbox
    have HR : Hid (Rd (w.alloc (.cells #[.slice A picks.length c] 32)) B A (ints picks)) := fun hne => by
      obtain ⟨g0, o0, e0, hg0, hc0⟩ := hr hne
      exact ⟨g0, o0, e0, hg0, fun j u hu => (World.cell?_alloc_lt _ _ _ (World.block_lt_of_cell? w _ (hc0 j u hu))).trans (hc0 j u hu)⟩
    clear e ho h1 hfa hbox hr
    unfold dptr
    go_enter Try.func23, Try.ntmps23
    go_wp2_with (go_at_call 40; refine (settP_calls p gs vw S _ H1.out (by omega) picks w.heap.size A c B HB.out HR.out hp hpn ⟨by omega, by omega⟩ hB).mono ?_; rintro e w2 ⟨rfl, h2, hf2⟩; have c22 := h2.c2; have f22 := h2.f 2; have HP := hid (on_put h2); have HF2 := hid hf2; clear h2 hf2)
    go_ret
    exact ⟨_, rfl, HP.out.1, (((HF.out.mono (fq := fpD p gs vw) (by simp)).trans HF2.out (by intro b hb _; simp at hb; rcases hb with rfl | rfl <;> simp [fpD])).trans HP.out.2 (by intro b hb _; simp at hb; subst hb; simp [fpD])), fun g hg => by simp [Value.ownBlock] at hg⟩
end Go.Proofs.Ytdkgpjmehdpliaa
