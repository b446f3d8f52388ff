/-
  The walk of does, on a disk of the law's own.
-/
import Derived.Test.YtdkgpjmehdpliaaActNil
namespace Go.Proofs.Ytdkgpjmehdpliaa
open Go.RowKit

theorem str_of (s : List UInt8) : sb ⟨s.toArray⟩ = s := sb_str s
section
variable (i at_ n : Int) (c : UInt8) (text : ByteArray) (A : Option Addr) (cap l : Nat) {B : Nat} {w0 w : World} {p gs : Nat} {S S' : Sp} {x : Int} (h : Dk B w0 w p gs S) (hc : S.count ≤ 1048576)

include h hc in
set_option maxRecDepth 10000 in
set_option maxHeartbeats 1000000 in
theorem does_1 (bs : List UInt8) (HT : Hid (∀ w, Calls Try.prog 31 #[actV 1 i at_ n c text A l cap] w fun e w' => e = .returned (str bs) ∧ Fr w w' [])) (hr : S.write i (sb ⟨bs.toArray⟩) = (S', x)) :
    Calls Try.prog 12 #[dptr p, actV 1 i at_ n c text A l cap] w (DP B w0 p gs S' x) := by
  obtain ⟨c0, c1, c2, c3, c6, hf, hl⟩ := box_cells w 1 i at_ n c text A l cap
  have HF := hid hf
  have HL := hid hl
  have HD := hid (Dk.drew (h.fr hf))
  have HR := hid hr
  clear hf hl c2 c3 c6 hr h
  unfold actV boxA dptr at *
  go_enter Try.func12, Try.ntmps12
  go_wp2_with fail
  go_region_with (first
    | (go_at_call 31; refine (HT.out _).mono ?_; rintro e w2 ⟨rfl, hf2⟩; have ci := HL.out _ hf2; have hd := HD.out.fr hf2; unfold str)
    | (go_at_call 24; refine (dk_write (S := S) (by with_reducible assumption) hc i _ HR.out).mono ?_; rintro e w3 ⟨rfl, hd3⟩))
  all_goals go_wp2_with fail
  all_goals (go_ret; exact ⟨rfl, by with_reducible assumption⟩)

include h hc in
set_option maxRecDepth 10000 in
theorem does_2 (hr : S.flush = (S', x)) :
    Calls Try.prog 12 #[dptr p, actV 2 i at_ n c text A l cap] w (DP B w0 p gs S' x) := by
  obtain ⟨c0, c1, c2, c3, c6, hf, hl⟩ := box_cells w 2 i at_ n c text A l cap
  have HD := hid (h.fr hf)
  have HR := hid hr
  clear hf hl hr h
  unfold actV boxA dptr at *
  go_enter Try.func12, Try.ntmps12
  go_wp2_with (go_at_call 26; refine (dk_flush (S := S) HD.out hc HR.out).mono ?_; rintro e w3 ⟨rfl, hd3⟩)
  go_ret
  exact ⟨rfl, hd3⟩

include h in
set_option maxRecDepth 10000 in
theorem does_3 (hn : n ≤ 9223372036854775807) (hr : S.fuse n = (S', x)) :
    Calls Try.prog 12 #[dptr p, actV 3 i at_ n c text A l cap] w (DP B w0 p gs S' x) := by
  obtain ⟨c0, c1, c2, c3, c6, hf, hl⟩ := box_cells w 3 i at_ n c text A l cap
  have HD := hid (h.fr hf)
  have HR := hid hr
  clear hf hl hr h
  unfold actV boxA dptr at *
  go_enter Try.func12, Try.ntmps12
  go_wp2_with (go_at_call 29; refine (dk_fuse (S := S) HD.out n hn HR.out).mono ?_; rintro e w3 ⟨rfl, hd3⟩)
  go_ret
  exact ⟨rfl, hd3⟩

include h in
set_option maxRecDepth 10000 in
theorem does_4 (hr : S.cut = (S', x)) :
    Calls Try.prog 12 #[dptr p, actV 4 i at_ n c text A l cap] w (DP B w0 p gs S' x) := by
  obtain ⟨c0, c1, c2, c3, c6, hf, hl⟩ := box_cells w 4 i at_ n c text A l cap
  have HD := hid (h.fr hf)
  have HR := hid hr
  clear hf hl hr h
  unfold actV boxA dptr at *
  go_enter Try.func12, Try.ntmps12
  go_wp2_with (go_at_call 22; refine (dk_cut (S := S) HD.out HR.out).mono ?_; rintro e w3 ⟨rfl, hd3⟩)
  go_ret
  exact ⟨rfl, hd3⟩

include h hc in
set_option maxRecDepth 10000 in
theorem does_5 (picks : List Int) (D : Nat) (hl0 : l = picks.length) (hrd : Rd w D A (ints picks)) (hp : ∀ y ∈ picks, y ≤ 9223372036854775807) (hpn : picks.length ≤ 9223372036854775807) (hA : picks ≠ [] → ∀ g o, A = some ⟨g, o, none⟩ → g ≠ gs) (hr : S.start picks = (S', x)) :
    Calls Try.prog 12 #[dptr p, actV 5 i at_ n c text A l cap] w (DP B w0 p gs S' x) := by
  obtain ⟨c0, c1, c2, c3, c6, hf, hl⟩ := box_cells w 5 i at_ n c text A l cap
  have HD := hid (h.fr hf)
  have HR := hid hr
  have HP : Hid (Rd (boxA w 5 i at_ n c text A l cap) D A (ints picks)) := fun hne => by
    obtain ⟨g0, o0, e0, hg0, hc0⟩ := hrd hne
    exact ⟨g0, o0, e0, hg0, fun j u hu => (World.cell?_alloc_lt _ _ _ (World.block_lt_of_cell? w _ (hc0 j u hu))).trans (hc0 j u hu)⟩
  have HPP := hid hp
  have HPN := hid hpn
  have HA := hid hA
  have HL0 := hid hl0
  clear hp hpn hA hrd hl0
  clear hf hl hr h
  unfold actV boxA dptr at *
  go_enter Try.func12, Try.ntmps12
  go_wp2_with (go_at_call 23; refine (dk_start (S := S) HD.out hc picks A l cap D HL0.out HP.out HPP.out HPN.out HA.out HR.out).mono ?_; rintro e w3 ⟨rfl, hd3⟩)
  go_ret
  exact ⟨rfl, hd3⟩

include h in
set_option maxRecDepth 10000 in
theorem does_6 (hr : S.rot i at_ n = (S', x)) :
    Calls Try.prog 12 #[dptr p, actV 6 i at_ n c text A l cap] w (DP B w0 p gs S' x) := by
  obtain ⟨c0, c1, c2, c3, c6, hf, hl⟩ := box_cells w 6 i at_ n c text A l cap
  have HD := hid (h.fr hf)
  have HR := hid hr
  clear hf hl hr h
  unfold actV boxA dptr at *
  go_enter Try.func12, Try.ntmps12
  go_wp2_with (go_at_call 30; refine (dk_rot (S := S) HD.out i at_ n HR.out).mono ?_; rintro e w3 ⟨rfl, hd3⟩)
  go_ret
  exact ⟨rfl, hd3⟩

include h hc in
set_option maxRecDepth 10000 in
theorem does_7 (kind : Int) (hk : kind ≠ 1 ∧ kind ≠ 2 ∧ kind ≠ 3 ∧ kind ≠ 4 ∧ kind ≠ 5 ∧ kind ≠ 6) :
    Calls Try.prog 12 #[dptr p, actV kind i at_ n c text A l cap] w (DP B w0 p gs S (S.read i).2) := by
  obtain ⟨c0, c1, c2, c3, c6, hf, hl⟩ := box_cells w kind i at_ n c text A l cap
  have HD := hid (h.fr hf)
  obtain ⟨h1, h2, h3, h4, h5, h6⟩ := hk
  have k1 : (kind == 1) = false := by simp [h1]
  have k2 : (kind == 2) = false := by simp [h2]
  have k3 : (kind == 3) = false := by simp [h3]
  have k4 : (kind == 4) = false := by simp [h4]
  have k5 : (kind == 5) = false := by simp [h5]
  have k6 : (kind == 6) = false := by simp [h6]
  obtain ⟨ll, xx, hr⟩ : ∃ ll xx, S.read i = (ll, xx) := ⟨_, _, rfl⟩
  rw [hr]
  have HR := hid hr
  clear hf hl h1 h2 h3 h4 h5 h6 hr h
  unfold actV boxA dptr at *
  go_enter Try.func12, Try.ntmps12
  go_wp2_with (go_at_call 17; refine (dk_read (S := S) HD.out hc i HR.out).mono ?_; rintro e w3 ⟨rfl, hd3⟩)
  go_ret
  exact ⟨rfl, hd3⟩
end

theorem dk_does {B : Nat} {w0 w : World} {p gs : Nat} {S S' : Sp} {e : Int} (h : Dk B w0 w p gs S) (hc : S.count ≤ 1048576) (x : Act0) (D : Nat) (hx : x.OK w D) (hD : D ≤ B) (hr : S.does x = (S', e)) :
    Calls Try.prog 12 #[dptr p, x.val] w (DP B w0 p gs S' e) := by
  have HT := hid (text_any x)
  have hA : x.picks ≠ [] → ∀ g o, x.A = some ⟨g, o, none⟩ → g ≠ gs := by
    intro hne g o e
    obtain ⟨g0, o0, e0, hg0, _⟩ := hx.rd (by simpa [ints] using hne)
    rw [e0] at e
    cases e
    obtain ⟨vw, hv, h2, _⟩ := h
    have := h2 gs (by simp [fpD])
    omega
  have hrd := hx.rd
  have hp := hx.p
  have hpn := hx.pn
  have hn := hx.n
  obtain ⟨kind, i, at_, n, c, text, A, cap, picks⟩ := x
  simp only [] at hA hrd hp hpn hn
  unfold Sp.does at hr
  simp only [] at hr
  by_cases h1 : kind = 1
  · subst h1
    rw [if_pos rfl] at hr
    exact does_1 i at_ n c text A cap picks.length h hc _ HT (by rw [sb_str]; exact hr)
  rw [if_neg h1] at hr
  by_cases h2 : kind = 2
  · subst h2
    rw [if_pos rfl] at hr
    exact does_2 i at_ n c text A cap picks.length h hc hr
  rw [if_neg h2] at hr
  by_cases h3 : kind = 3
  · subst h3
    rw [if_pos rfl] at hr
    exact does_3 i at_ n c text A cap picks.length h hn hr
  rw [if_neg h3] at hr
  by_cases h4 : kind = 4
  · subst h4
    rw [if_pos rfl] at hr
    exact does_4 i at_ n c text A cap picks.length h hr
  rw [if_neg h4] at hr
  by_cases h5 : kind = 5
  · subst h5
    rw [if_pos rfl] at hr
    exact does_5 i at_ n c text A cap picks.length h hc picks D rfl hrd hp hpn hA hr
  rw [if_neg h5] at hr
  by_cases h6 : kind = 6
  · subst h6
    rw [if_pos rfl] at hr
    exact does_6 i at_ n c text A cap picks.length h hr
  rw [if_neg h6] at hr
  cases hr
  exact does_7 i at_ n c text A cap picks.length h hc kind ⟨h1, h2, h3, h4, h5, h6⟩
end Go.Proofs.Ytdkgpjmehdpliaa
