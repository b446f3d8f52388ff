/-
  The walk of means, with its frame.
-/
import Derived.Test.YtdkgpjmehdpliaaRefT
namespace Go.Proofs.Ytdkgpjmehdpliaa
open Go.RowKit

theorem rstart_any (q gl gm cl cm : Nat) (vw : Value) (S : Sp) (picks : List Int) (A : Option Addr) (cp D : Nat) (w : World) (h : HasR w q gl gm cl cm vw S) (hc : S.count ≤ 1048576)
    (hr : Rd w D A (ints picks)) (hp : ∀ x ∈ picks, x ≤ 9223372036854775807) (hpn : picks.length ≤ 9223372036854775807) (hA : picks ≠ [] → ∀ g o, A = some ⟨g, o, none⟩ → g ≠ gl ∧ g ≠ gm) :
    Calls Try.prog 36 #[dptr q, .slice A picks.length cp] w (RE w q gl gm cl cm vw (S.start picks)) := by
  cases ho : S.on with
  | true => exact rstart_busy q gl gm cl cm vw _ S picks w h ho
  | false => exact rstart_ok q gl gm cl cm vw S picks A cp D w h ho hc hr hp hpn hA

/-- what a call leaves of the disk, its frame with it -/
def RX (w : World) (q gl gm cl cm : Nat) (vw : Value) (S' : Sp) (w' : World) : Prop :=
  ∃ vw', HasR w' q gl gm cl cm vw' S' ∧ Fr w w' (fpR q gl gm vw) ∧ (∀ g, vw'.ownBlock = some g → vw.ownBlock = some g ∨ w.heap.size ≤ g)
def RY (w : World) (q gl gm cl cm : Nat) (vw : Value) (S' : Sp) (x : Int) (e : Ending) (w' : World) : Prop := e = .returned (.int .i64 x) ∧ RX w q gl gm cl cm vw S' w'
section
variable {w w1 w' : World} {q gl gm cl cm : Nat} {vw : Value} {S S' : Sp}
theorem RX.of (hf : Fr w w1 []) (h : RX w1 q gl gm cl cm vw S' w') : RX w q gl gm cl cm vw S' w' := by
  obtain ⟨vw', k1, k2, k3⟩ := h
  have hs := hf.size
  exact ⟨vw', k1, (hf.mono (fq := fpR q gl gm vw) (by simp)).trans k2 (fun b hb _ => hb), fun g hg => (k3 g hg).imp id (fun h => Nat.le_trans hs h)⟩
theorem RX.same (h : HasR w q gl gm cl cm vw S) : RX w q gl gm cl cm vw S w := ⟨vw, h, Fr.refl _ _, fun _ hg => .inl hg⟩
theorem ry {P : Program} {f : FuncId} {args : Array Value} {r : Sp × Int} {x : Int} (hr : r = (S', x)) (H : Calls P f args w (RE w q gl gm cl cm vw r)) : Calls P f args w (RY w q gl gm cl cm vw S' x) := by
  subst hr
  exact H.mono fun e w' ⟨vw', k0, k1, k2, k3⟩ => ⟨k0, vw', k1, k2, k3⟩
theorem ry_write (h : HasR w q gl gm cl cm vw S) (hc : S.count ≤ 1048576) (i : Int) (s : ByteArray) {x : Int} (hr : S.write i (sb s) = (S', x)) : Calls Try.prog 32 #[dptr q, .int .i64 i, .string s] w (RY w q gl gm cl cm vw S' x) :=
  ry hr (rwrite_any q gl gm cl cm vw S i s w h hc)
theorem ry_flush (h : HasR w q gl gm cl cm vw S) (hc : S.count ≤ 1048576) {x : Int} (hr : S.flush = (S', x)) : Calls Try.prog 33 #[dptr q] w (RY w q gl gm cl cm vw S' x) :=
  ry hr (rflush_any q gl gm cl cm vw S w h hc)
theorem ry_fuse (h : HasR w q gl gm cl cm vw S) (n : Int) (hn : n ≤ 9223372036854775807) {x : Int} (hr : S.fuse n = (S', x)) : Calls Try.prog 34 #[dptr q, .int .i64 n] w (RY w q gl gm cl cm vw S' x) :=
  ry hr (rfuse_any q gl gm cl cm vw S n w h hn)
theorem ry_cut (h : HasR w q gl gm cl cm vw S) {x : Int} (hr : S.cut = (S', x)) : Calls Try.prog 35 #[dptr q] w (RY w q gl gm cl cm vw S' x) :=
  ry hr (rcut_any q gl gm cl cm vw S w h)
theorem ry_start (h : HasR w q gl gm cl cm vw S) (hc : S.count ≤ 1048576) (picks : List Int) (A : Option Addr) (l c D : Nat) (hl : l = picks.length) (hrd : Rd w D A (ints picks)) (hp : ∀ x ∈ picks, x ≤ 9223372036854775807) (hpn : picks.length ≤ 9223372036854775807)
    (hA : picks ≠ [] → ∀ g o, A = some ⟨g, o, none⟩ → g ≠ gl ∧ g ≠ gm) {x : Int} (hr : S.start picks = (S', x)) : Calls Try.prog 36 #[dptr q, .slice A l c] w (RY w q gl gm cl cm vw S' x) := by
  subst hl
  exact ry hr (rstart_any q gl gm cl cm vw S picks A c D w h hc hrd hp hpn hA)
theorem ry_rot (h : HasR w q gl gm cl cm vw S) (hc : S.count ≤ 1048576) (i a m : Int) {x : Int} (hr : S.rot i a m = (S', x)) : Calls Try.prog 37 #[dptr q, .int .i64 i, .int .i64 a, .int .i64 m] w (RY w q gl gm cl cm vw S' x) :=
  ry hr (rrot_any q gl gm cl cm vw S i a m w h hc)
theorem ry_read (h : HasR w q gl gm cl cm vw S) (hc : S.count ≤ 1048576) (i : Int) {l : List UInt8} {x : Int} (hr : S.read i = (l, x)) : Calls Try.prog 18 #[dptr q, .int .i64 i] w fun e w' => e = .returned (.tuple #[.string ⟨l.toArray⟩, .int .i64 x]) ∧ RX w q gl gm cl cm vw S w' := by
  refine (rread_any q gl gm cl cm vw S i w h hc).mono ?_
  rw [hr]
  rintro e w' ⟨rfl, rfl⟩
  exact ⟨rfl, RX.same h⟩
end

section
variable (i at_ n : Int) (c : UInt8) (text : ByteArray) (A : Option Addr) (cap l : Nat) {w : World} {q gl gm cl cm : Nat} {vw : Value} {S S' : Sp} {x : Int} (h : HasR w q gl gm cl cm vw S) (hc : S.count ≤ 1048576)

include h hc in
set_option maxRecDepth 10000 in
set_option maxHeartbeats 1000000 in
theorem rdoes_1 (bs : List UInt8) (HT : Hid (∀ w, Calls Try.prog 31 #[actV 1 i at_ n c text A l cap] w fun e w' => e = .returned (str bs) ∧ Fr w w' [])) (hr : S.write i (sb ⟨bs.toArray⟩) = (S', x)) :
    Calls Try.prog 13 #[dptr q, actV 1 i at_ n c text A l cap] w (RY w q gl gm cl cm vw S' x) := by
  obtain ⟨c0, c1, c2, c3, c6, hf, hl⟩ := box_cells w 1 i at_ n c text A l cap
  have HF := hid hf
  have HL := hid hl
  have HD := hid h
  have HR := hid hr
  clear hf hl c2 c3 c6 hr h
  unfold actV boxA dptr at *
  go_enter Try.func13, Try.ntmps13
  go_wp2_with fail
  go_region_with (first
    | (go_at_call 31; refine (HT.out _).mono ?_; rintro e w2 ⟨rfl, hf2⟩; have ci := HL.out _ hf2; have HF2 := hid (Fr.trans (Fr.drew HF.out) hf2 (by simp)); clear hf2; unfold str)
    | (go_at_call 32; refine (ry_write (S := S) (HD.out.fr HF2.out (by simp)) hc i _ HR.out).mono ?_; rintro e w3 ⟨rfl, hd3⟩))
  all_goals go_wp2_with fail
  all_goals (go_ret; exact ⟨rfl, RX.of HF2.out (by with_reducible assumption)⟩)

include h hc in
set_option maxRecDepth 10000 in
theorem rdoes_2 (hr : S.flush = (S', x)) :
    Calls Try.prog 13 #[dptr q, actV 2 i at_ n c text A l cap] w (RY w q gl gm cl cm vw S' x) := by
  obtain ⟨c0, c1, c2, c3, c6, hf, hl⟩ := box_cells w 2 i at_ n c text A l cap
  have HF := hid hf
  have HD := hid (h.fr hf (by simp))
  have HR := hid hr
  clear hf hl hr h
  unfold actV boxA dptr at *
  go_enter Try.func13, Try.ntmps13
  go_wp2_with (go_at_call 33; refine (ry_flush (S := S) HD.out hc HR.out).mono ?_; rintro e w3 ⟨rfl, hd3⟩)
  go_ret
  exact ⟨rfl, hd3.of HF.out⟩

include h in
set_option maxRecDepth 10000 in
theorem rdoes_3 (hn : n ≤ 9223372036854775807) (hr : S.fuse n = (S', x)) :
    Calls Try.prog 13 #[dptr q, actV 3 i at_ n c text A l cap] w (RY w q gl gm cl cm vw S' x) := by
  obtain ⟨c0, c1, c2, c3, c6, hf, hl⟩ := box_cells w 3 i at_ n c text A l cap
  have HF := hid hf
  have HD := hid (h.fr hf (by simp))
  have HR := hid hr
  clear hf hl hr h
  unfold actV boxA dptr at *
  go_enter Try.func13, Try.ntmps13
  go_wp2_with (go_at_call 34; refine (ry_fuse (S := S) HD.out n hn HR.out).mono ?_; rintro e w3 ⟨rfl, hd3⟩)
  go_ret
  exact ⟨rfl, hd3.of HF.out⟩

include h in
set_option maxRecDepth 10000 in
theorem rdoes_4 (hr : S.cut = (S', x)) :
    Calls Try.prog 13 #[dptr q, actV 4 i at_ n c text A l cap] w (RY w q gl gm cl cm vw S' x) := by
  obtain ⟨c0, c1, c2, c3, c6, hf, hl⟩ := box_cells w 4 i at_ n c text A l cap
  have HF := hid hf
  have HD := hid (h.fr hf (by simp))
  have HR := hid hr
  clear hf hl hr h
  unfold actV boxA dptr at *
  go_enter Try.func13, Try.ntmps13
  go_wp2_with (go_at_call 35; refine (ry_cut (S := S) HD.out HR.out).mono ?_; rintro e w3 ⟨rfl, hd3⟩)
  go_ret
  exact ⟨rfl, hd3.of HF.out⟩

include h hc in
set_option maxRecDepth 10000 in
theorem rdoes_5 (picks : List Int) (D : Nat) (hl0 : l = picks.length) (hrd : Rd w D A (ints picks)) (hp : ∀ y ∈ picks, y ≤ 9223372036854775807) (hpn : picks.length ≤ 9223372036854775807) (hA : picks ≠ [] → ∀ g o, A = some ⟨g, o, none⟩ → g ≠ gl ∧ g ≠ gm) (hr : S.start picks = (S', x)) :
    Calls Try.prog 13 #[dptr q, actV 5 i at_ n c text A l cap] w (RY w q gl gm cl cm vw S' x) := by
  obtain ⟨c0, c1, c2, c3, c6, hf, hl⟩ := box_cells w 5 i at_ n c text A l cap
  have HF := hid hf
  have HD := hid (h.fr hf (by simp))
  have HR := hid hr
  have HP : Hid (Rd (boxA w 5 i at_ n c text A l cap) D A (ints picks)) := fun hne => by
    obtain ⟨g0, o0, e0, hg0, hc0⟩ := hrd hne
    exact ⟨g0, o0, e0, hg0, fun j u hu => (World.cell?_alloc_lt _ _ _ (World.block_lt_of_cell? w _ (hc0 j u hu))).trans (hc0 j u hu)⟩
  have HPP := hid hp
  have HPN := hid hpn
  have HA := hid hA
  have HL0 := hid hl0
  clear hp hpn hA hrd hl0
  clear hf hl hr h
  unfold actV boxA dptr at *
  go_enter Try.func13, Try.ntmps13
  go_wp2_with (go_at_call 36; refine (ry_start (S := S) HD.out hc picks A l cap D HL0.out HP.out HPP.out HPN.out HA.out HR.out).mono ?_; rintro e w3 ⟨rfl, hd3⟩)
  go_ret
  exact ⟨rfl, hd3.of HF.out⟩

include h hc in
set_option maxRecDepth 10000 in
theorem rdoes_6 (hr : S.rot i at_ n = (S', x)) :
    Calls Try.prog 13 #[dptr q, actV 6 i at_ n c text A l cap] w (RY w q gl gm cl cm vw S' x) := by
  obtain ⟨c0, c1, c2, c3, c6, hf, hl⟩ := box_cells w 6 i at_ n c text A l cap
  have HF := hid hf
  have HD := hid (h.fr hf (by simp))
  have HR := hid hr
  clear hf hl hr h
  unfold actV boxA dptr at *
  go_enter Try.func13, Try.ntmps13
  go_wp2_with (go_at_call 37; refine (ry_rot (S := S) HD.out hc i at_ n HR.out).mono ?_; rintro e w3 ⟨rfl, hd3⟩)
  go_ret
  exact ⟨rfl, hd3.of HF.out⟩

include h hc in
set_option maxRecDepth 10000 in
theorem rdoes_7 (kind : Int) (hk : kind ≠ 1 ∧ kind ≠ 2 ∧ kind ≠ 3 ∧ kind ≠ 4 ∧ kind ≠ 5 ∧ kind ≠ 6) :
    Calls Try.prog 13 #[dptr q, actV kind i at_ n c text A l cap] w (RY w q gl gm cl cm vw S (S.read i).2) := by
  obtain ⟨c0, c1, c2, c3, c6, hf, hl⟩ := box_cells w kind i at_ n c text A l cap
  have HF := hid hf
  have HD := hid (h.fr hf (by simp))
  obtain ⟨h1, h2, h3, h4, h5, h6⟩ := hk
  have k1 : (kind == 1) = false := by simp [h1]
  have k2 : (kind == 2) = false := by simp [h2]
  have k3 : (kind == 3) = false := by simp [h3]
  have k4 : (kind == 4) = false := by simp [h4]
  have k5 : (kind == 5) = false := by simp [h5]
  have k6 : (kind == 6) = false := by simp [h6]
  obtain ⟨ll, xx, hr⟩ : ∃ ll xx, S.read i = (ll, xx) := ⟨_, _, rfl⟩
  rw [hr]
  have HR := hid hr
  clear hf hl h1 h2 h3 h4 h5 h6 hr h
  unfold actV boxA dptr at *
  go_enter Try.func13, Try.ntmps13
  go_wp2_with (go_at_call 18; refine (ry_read (S := S) HD.out hc i HR.out).mono ?_; rintro e w3 ⟨rfl, hd3⟩)
  go_ret
  exact ⟨rfl, hd3.of HF.out⟩
end

theorem r_does {w : World} {q gl gm cl cm : Nat} {vw : Value} {S S' : Sp} {e : Int} (h : HasR w q gl gm cl cm vw S) (hc : S.count ≤ 1048576) (x : Act0) (D : Nat) (hx : x.OK w D) (hD : ∀ b ∈ fpR q gl gm vw, D ≤ b) (hr : S.does x = (S', e)) :
    Calls Try.prog 13 #[dptr q, x.val] w (RY w q gl gm cl cm vw S' e) := by
  have HT := hid (text_any x)
  have hA : x.picks ≠ [] → ∀ g o, x.A = some ⟨g, o, none⟩ → g ≠ gl ∧ g ≠ gm := by
    intro hne g o e
    obtain ⟨g0, o0, e0, hg0, _⟩ := hx.rd (by simpa [ints] using hne)
    rw [e0] at e
    cases e
    have := hD gl (by simp [fpR])
    have := hD gm (by simp [fpR])
    omega
  have hrd := hx.rd
  have hp := hx.p
  have hpn := hx.pn
  have hn := hx.n
  obtain ⟨kind, i, at_, n, c, text, A, cap, picks⟩ := x
  simp only [] at hA hrd hp hpn hn
  unfold Sp.does at hr
  simp only [] at hr
  by_cases h1 : kind = 1
  · subst h1
    rw [if_pos rfl] at hr
    exact rdoes_1 i at_ n c text A cap picks.length h hc _ HT (by rw [sb_str]; exact hr)
  rw [if_neg h1] at hr
  by_cases h2 : kind = 2
  · subst h2
    rw [if_pos rfl] at hr
    exact rdoes_2 i at_ n c text A cap picks.length h hc hr
  rw [if_neg h2] at hr
  by_cases h3 : kind = 3
  · subst h3
    rw [if_pos rfl] at hr
    exact rdoes_3 i at_ n c text A cap picks.length h hn hr
  rw [if_neg h3] at hr
  by_cases h4 : kind = 4
  · subst h4
    rw [if_pos rfl] at hr
    exact rdoes_4 i at_ n c text A cap picks.length h hr
  rw [if_neg h4] at hr
  by_cases h5 : kind = 5
  · subst h5
    rw [if_pos rfl] at hr
    exact rdoes_5 i at_ n c text A cap picks.length h hc picks D rfl hrd hp hpn hA hr
  rw [if_neg h5] at hr
  by_cases h6 : kind = 6
  · subst h6
    rw [if_pos rfl] at hr
    exact rdoes_6 i at_ n c text A cap picks.length h hc hr
  rw [if_neg h6] at hr
  cases hr
  exact rdoes_7 i at_ n c text A cap picks.length h hc kind ⟨h1, h2, h3, h4, h5, h6⟩
end Go.Proofs.Ytdkgpjmehdpliaa
