/-
  The walk of does, with its frame.
-/
import Derived.Test.YtdkgpjmehdpliaaDoes
namespace Go.Proofs.Ytdkgpjmehdpliaa
open Go.RowKit

/-- what a call leaves of the disk, its frame with it -/
def DX (w : World) (p gs : Nat) (vw : Value) (S' : Sp) (w' : World) : Prop :=
  ∃ vw', HasD w' p gs vw' S' ∧ Fr w w' (fpD p gs vw) ∧ (∀ g, vw'.ownBlock = some g → vw.ownBlock = some g ∨ w.heap.size ≤ g)
def DY (w : World) (p gs : Nat) (vw : Value) (S' : Sp) (x : Int) (e : Ending) (w' : World) : Prop := e = .returned (.int .i64 x) ∧ DX w p gs vw S' w'
section
variable {w w1 w' : World} {p gs : Nat} {vw : Value} {S S' : Sp}
theorem DX.of (hf : Fr w w1 []) (h : DX w1 p gs vw S' w') : DX w p gs vw S' w' := by
  obtain ⟨vw', k1, k2, k3⟩ := h
  have hs := hf.size
  exact ⟨vw', k1, (hf.mono (fq := fpD p gs vw) (by simp)).trans k2 (fun b hb _ => hb), fun g hg => (k3 g hg).imp id (fun h => Nat.le_trans hs h)⟩
theorem DX.same (h : HasD w p gs vw S) : DX w p gs vw S w := ⟨vw, h, Fr.refl _ _, fun _ hg => .inl hg⟩
theorem dy {P : Program} {f : FuncId} {args : Array Value} {r : Sp × Int} {x : Int} (hr : r = (S', x)) (H : Calls P f args w (DE w p gs vw r)) : Calls P f args w (DY w p gs vw S' x) := by
  subst hr
  exact H.mono fun e w' ⟨vw', k0, k1, k2, k3⟩ => ⟨k0, vw', k1, k2, k3⟩
theorem dy_write (h : HasD w p gs vw S) (hc : S.count ≤ 1048576) (i : Int) (s : ByteArray) {x : Int} (hr : S.write i (sb s) = (S', x)) : Calls Try.prog 24 #[dptr p, .int .i64 i, .string s] w (DY w p gs vw S' x) :=
  dy hr (write_any p gs vw S i s w h hc)
theorem dy_flush (h : HasD w p gs vw S) (hc : S.count ≤ 1048576) {x : Int} (hr : S.flush = (S', x)) : Calls Try.prog 26 #[dptr p] w (DY w p gs vw S' x) :=
  dy hr (flush_any p gs vw S w h hc)
theorem dy_fuse (h : HasD w p gs vw S) (n : Int) (hn : n ≤ 9223372036854775807) {x : Int} (hr : S.fuse n = (S', x)) : Calls Try.prog 29 #[dptr p, .int .i64 n] w (DY w p gs vw S' x) :=
  dy hr ((fuse_any p gs vw S n w h hn).mono fun _ _ ⟨k1, k2, k3⟩ => ⟨vw, k1, k2, k3.mono (by simp [fpD]), fun _ hg => .inl hg⟩)
theorem dy_cut (h : HasD w p gs vw S) {x : Int} (hr : S.cut = (S', x)) : Calls Try.prog 22 #[dptr p] w (DY w p gs vw S' x) :=
  dy hr ((cut_any p gs vw S w h).mono fun _ _ ⟨k1, k2, k3⟩ => ⟨vw, k1, k2, k3.mono (by simp [fpD]), fun _ hg => .inl hg⟩)
theorem dy_start (h : HasD w p gs vw S) (hc : S.count ≤ 1048576) (picks : List Int) (A : Option Addr) (l c D : Nat) (hl : l = picks.length) (hrd : Rd w D A (ints picks)) (hp : ∀ x ∈ picks, x ≤ 9223372036854775807) (hpn : picks.length ≤ 9223372036854775807)
    (hA : picks ≠ [] → ∀ g o, A = some ⟨g, o, none⟩ → g ≠ gs) {x : Int} (hr : S.start picks = (S', x)) : Calls Try.prog 23 #[dptr p, .slice A l c] w (DY w p gs vw S' x) := by
  subst hl
  exact dy hr (start_any p gs vw S picks A c D w h hc hrd hp hpn hA)
theorem dy_rot (h : HasD w p gs vw S) (hc : S.count ≤ 1048576) (i a m : Int) {x : Int} (hr : S.rot i a m = (S', x)) : Calls Try.prog 30 #[dptr p, .int .i64 i, .int .i64 a, .int .i64 m] w (DY w p gs vw S' x) :=
  dy hr (have _ := hc; rot_any p gs vw S i a m w h)
theorem dy_read (h : HasD w p gs vw S) (hc : S.count ≤ 1048576) (i : Int) {l : List UInt8} {x : Int} (hr : S.read i = (l, x)) : Calls Try.prog 17 #[dptr p, .int .i64 i] w fun e w' => e = .returned (.tuple #[.string ⟨l.toArray⟩, .int .i64 x]) ∧ DX w p gs vw S w' := by
  refine (read_any p gs vw S i w h hc).mono ?_
  rw [hr]
  rintro e w' ⟨rfl, n, rfl⟩
  exact ⟨rfl, vw, h.fr (fp := []) ⟨rfl, rfl, rfl, Nat.le_refl _, fun _ _ _ => rfl⟩ (by simp), ⟨rfl, rfl, rfl, Nat.le_refl _, fun _ _ _ => rfl⟩, fun _ hg => .inl hg⟩
end

section
variable (i at_ n : Int) (c : UInt8) (text : ByteArray) (A : Option Addr) (cap l : Nat) {w : World} {p gs : Nat} {vw : Value} {S S' : Sp} {x : Int} (h : HasD w p gs vw S) (hc : S.count ≤ 1048576)

include h hc in
set_option maxRecDepth 10000 in
set_option maxHeartbeats 1000000 in
theorem ddoes_1 (bs : List UInt8) (HT : Hid (∀ w, Calls Try.prog 31 #[actV 1 i at_ n c text A l cap] w fun e w' => e = .returned (str bs) ∧ Fr w w' [])) (hr : S.write i (sb ⟨bs.toArray⟩) = (S', x)) :
    Calls Try.prog 12 #[dptr p, actV 1 i at_ n c text A l cap] w (DY w p gs vw S' x) := by
  obtain ⟨c0, c1, c2, c3, c6, hf, hl⟩ := box_cells w 1 i at_ n c text A l cap
  have HF := hid hf
  have HL := hid hl
  have HD := hid h
  have HR := hid hr
  clear hf hl c2 c3 c6 hr h
  unfold actV boxA dptr at *
  go_enter Try.func12, Try.ntmps12
  go_wp2_with fail
  go_region_with (first
    | (go_at_call 31; refine (HT.out _).mono ?_; rintro e w2 ⟨rfl, hf2⟩; have ci := HL.out _ hf2; have HF2 := hid (Fr.trans (Fr.drew HF.out) hf2 (by simp)); clear hf2; unfold str)
    | (go_at_call 24; refine (dy_write (S := S) (HD.out.fr HF2.out (by simp)) hc i _ HR.out).mono ?_; rintro e w3 ⟨rfl, hd3⟩))
  all_goals go_wp2_with fail
  all_goals (go_ret; exact ⟨rfl, DX.of HF2.out (by with_reducible assumption)⟩)

include h hc in
set_option maxRecDepth 10000 in
theorem ddoes_2 (hr : S.flush = (S', x)) :
    Calls Try.prog 12 #[dptr p, actV 2 i at_ n c text A l cap] w (DY w p gs vw S' x) := by
  obtain ⟨c0, c1, c2, c3, c6, hf, hl⟩ := box_cells w 2 i at_ n c text A l cap
  have HF := hid hf
  have HD := hid (h.fr hf (by simp))
  have HR := hid hr
  clear hf hl hr h
  unfold actV boxA dptr at *
  go_enter Try.func12, Try.ntmps12
  go_wp2_with (go_at_call 26; refine (dy_flush (S := S) HD.out hc HR.out).mono ?_; rintro e w3 ⟨rfl, hd3⟩)
  go_ret
  exact ⟨rfl, hd3.of HF.out⟩

include h in
set_option maxRecDepth 10000 in
theorem ddoes_3 (hn : n ≤ 9223372036854775807) (hr : S.fuse n = (S', x)) :
    Calls Try.prog 12 #[dptr p, actV 3 i at_ n c text A l cap] w (DY w p gs vw S' x) := by
  obtain ⟨c0, c1, c2, c3, c6, hf, hl⟩ := box_cells w 3 i at_ n c text A l cap
  have HF := hid hf
  have HD := hid (h.fr hf (by simp))
  have HR := hid hr
  clear hf hl hr h
  unfold actV boxA dptr at *
  go_enter Try.func12, Try.ntmps12
  go_wp2_with (go_at_call 29; refine (dy_fuse (S := S) HD.out n hn HR.out).mono ?_; rintro e w3 ⟨rfl, hd3⟩)
  go_ret
  exact ⟨rfl, hd3.of HF.out⟩

include h in
set_option maxRecDepth 10000 in
theorem ddoes_4 (hr : S.cut = (S', x)) :
    Calls Try.prog 12 #[dptr p, actV 4 i at_ n c text A l cap] w (DY w p gs vw S' x) := by
  obtain ⟨c0, c1, c2, c3, c6, hf, hl⟩ := box_cells w 4 i at_ n c text A l cap
  have HF := hid hf
  have HD := hid (h.fr hf (by simp))
  have HR := hid hr
  clear hf hl hr h
  unfold actV boxA dptr at *
  go_enter Try.func12, Try.ntmps12
  go_wp2_with (go_at_call 22; refine (dy_cut (S := S) HD.out HR.out).mono ?_; rintro e w3 ⟨rfl, hd3⟩)
  go_ret
  exact ⟨rfl, hd3.of HF.out⟩

include h hc in
set_option maxRecDepth 10000 in
theorem ddoes_5 (picks : List Int) (D : Nat) (hl0 : l = picks.length) (hrd : Rd w D A (ints picks)) (hp : ∀ y ∈ picks, y ≤ 9223372036854775807) (hpn : picks.length ≤ 9223372036854775807) (hA : picks ≠ [] → ∀ g o, A = some ⟨g, o, none⟩ → g ≠ gs) (hr : S.start picks = (S', x)) :
    Calls Try.prog 12 #[dptr p, actV 5 i at_ n c text A l cap] w (DY w p gs vw S' x) := by
  obtain ⟨c0, c1, c2, c3, c6, hf, hl⟩ := box_cells w 5 i at_ n c text A l cap
  have HF := hid hf
  have HD := hid (h.fr hf (by simp))
  have HR := hid hr
  have HP : Hid (Rd (boxA w 5 i at_ n c text A l cap) D A (ints picks)) := fun hne => by
    obtain ⟨g0, o0, e0, hg0, hc0⟩ := hrd hne
    exact ⟨g0, o0, e0, hg0, fun j u hu => (World.cell?_alloc_lt _ _ _ (World.block_lt_of_cell? w _ (hc0 j u hu))).trans (hc0 j u hu)⟩
  have HPP := hid hp
  have HPN := hid hpn
  have HA := hid hA
  have HL0 := hid hl0
  clear hp hpn hA hrd hl0
  clear hf hl hr h
  unfold actV boxA dptr at *
  go_enter Try.func12, Try.ntmps12
  go_wp2_with (go_at_call 23; refine (dy_start (S := S) HD.out hc picks A l cap D HL0.out HP.out HPP.out HPN.out HA.out HR.out).mono ?_; rintro e w3 ⟨rfl, hd3⟩)
  go_ret
  exact ⟨rfl, hd3.of HF.out⟩

include h hc in
set_option maxRecDepth 10000 in
theorem ddoes_6 (hr : S.rot i at_ n = (S', x)) :
    Calls Try.prog 12 #[dptr p, actV 6 i at_ n c text A l cap] w (DY w p gs vw S' x) := by
  obtain ⟨c0, c1, c2, c3, c6, hf, hl⟩ := box_cells w 6 i at_ n c text A l cap
  have HF := hid hf
  have HD := hid (h.fr hf (by simp))
  have HR := hid hr
  clear hf hl hr h
  unfold actV boxA dptr at *
  go_enter Try.func12, Try.ntmps12
  go_wp2_with (go_at_call 30; refine (dy_rot (S := S) HD.out hc i at_ n HR.out).mono ?_; rintro e w3 ⟨rfl, hd3⟩)
  go_ret
  exact ⟨rfl, hd3.of HF.out⟩

include h hc in
set_option maxRecDepth 10000 in
theorem ddoes_7 (kind : Int) (hk : kind ≠ 1 ∧ kind ≠ 2 ∧ kind ≠ 3 ∧ kind ≠ 4 ∧ kind ≠ 5 ∧ kind ≠ 6) :
    Calls Try.prog 12 #[dptr p, actV kind i at_ n c text A l cap] w (DY w p gs vw S (S.read i).2) := by
  obtain ⟨c0, c1, c2, c3, c6, hf, hl⟩ := box_cells w kind i at_ n c text A l cap
  have HF := hid hf
  have HD := hid (h.fr hf (by simp))
  obtain ⟨h1, h2, h3, h4, h5, h6⟩ := hk
  have k1 : (kind == 1) = false := by simp [h1]
  have k2 : (kind == 2) = false := by simp [h2]
  have k3 : (kind == 3) = false := by simp [h3]
  have k4 : (kind == 4) = false := by simp [h4]
  have k5 : (kind == 5) = false := by simp [h5]
  have k6 : (kind == 6) = false := by simp [h6]
  obtain ⟨ll, xx, hr⟩ : ∃ ll xx, S.read i = (ll, xx) := ⟨_, _, rfl⟩
  rw [hr]
  have HR := hid hr
  clear hf hl h1 h2 h3 h4 h5 h6 hr h
  unfold actV boxA dptr at *
  go_enter Try.func12, Try.ntmps12
  go_wp2_with (go_at_call 17; refine (dy_read (S := S) HD.out hc i HR.out).mono ?_; rintro e w3 ⟨rfl, hd3⟩)
  go_ret
  exact ⟨rfl, hd3.of HF.out⟩
end

theorem d_does {w : World} {p gs : Nat} {vw : Value} {S S' : Sp} {e : Int} (h : HasD w p gs vw S) (hc : S.count ≤ 1048576) (x : Act0) (D : Nat) (hx : x.OK w D) (hD : ∀ b ∈ fpD p gs vw, D ≤ b) (hr : S.does x = (S', e)) :
    Calls Try.prog 12 #[dptr p, x.val] w (DY w p gs vw S' e) := by
  have HT := hid (text_any x)
  have hA : x.picks ≠ [] → ∀ g o, x.A = some ⟨g, o, none⟩ → g ≠ gs := by
    intro hne g o e
    obtain ⟨g0, o0, e0, hg0, _⟩ := hx.rd (by simpa [ints] using hne)
    rw [e0] at e
    cases e
    have := hD gs (by simp [fpD])
    omega
  have hrd := hx.rd
  have hp := hx.p
  have hpn := hx.pn
  have hn := hx.n
  obtain ⟨kind, i, at_, n, c, text, A, cap, picks⟩ := x
  simp only [] at hA hrd hp hpn hn
  unfold Sp.does at hr
  simp only [] at hr
  by_cases h1 : kind = 1
  · subst h1
    rw [if_pos rfl] at hr
    exact ddoes_1 i at_ n c text A cap picks.length h hc _ HT (by rw [sb_str]; exact hr)
  rw [if_neg h1] at hr
  by_cases h2 : kind = 2
  · subst h2
    rw [if_pos rfl] at hr
    exact ddoes_2 i at_ n c text A cap picks.length h hc hr
  rw [if_neg h2] at hr
  by_cases h3 : kind = 3
  · subst h3
    rw [if_pos rfl] at hr
    exact ddoes_3 i at_ n c text A cap picks.length h hn hr
  rw [if_neg h3] at hr
  by_cases h4 : kind = 4
  · subst h4
    rw [if_pos rfl] at hr
    exact ddoes_4 i at_ n c text A cap picks.length h hr
  rw [if_neg h4] at hr
  by_cases h5 : kind = 5
  · subst h5
    rw [if_pos rfl] at hr
    exact ddoes_5 i at_ n c text A cap picks.length h hc picks D rfl hrd hp hpn hA hr
  rw [if_neg h5] at hr
  by_cases h6 : kind = 6
  · subst h6
    rw [if_pos rfl] at hr
    exact ddoes_6 i at_ n c text A cap picks.length h hc hr
  rw [if_neg h6] at hr
  cases hr
  exact ddoes_7 i at_ n c text A cap picks.length h hc kind ⟨h1, h2, h3, h4, h5, h6⟩
end Go.Proofs.Ytdkgpjmehdpliaa
