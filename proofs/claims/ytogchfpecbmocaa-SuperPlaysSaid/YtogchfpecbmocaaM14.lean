/-
  The walk of DiskLasts.
-/
import Derived.Test.YtogchfpecbmocaaM13
import Derived.Deep.LoopGhost
namespace Go.Proofs.Ytogchfpecbmocaa
open Go.RowKit

/-- the k-th call's cells in a list of calls -/
theorem act_cells {w : World} {D : Nat} {A : Option Addr} {XS : List Act0} (h : Rd w D A (XS.map Act0.cells).flatten) (k : Nat) (hk : k < XS.length) :
    ∃ g o, A = some ⟨g, o, none⟩ ∧ g < D ∧ ∀ m v, XS[k].cells[m]? = some v → w.cell? ⟨g, o + k * 7 + m, none⟩ = some v := by
  have hR : ∀ r ∈ XS.map Act0.cells, r.length = 7 := by
    intro r hr
    obtain ⟨X, _, rfl⟩ := List.mem_map.1 hr
    rfl
  have hne : (XS.map Act0.cells).flatten ≠ [] := by
    intro e
    have := flat_length 7 _ hR
    rw [e] at this
    simp only [List.length_nil, List.length_map] at this
    omega
  obtain ⟨g, o, rfl, hg, hc⟩ := h hne
  refine ⟨g, o, rfl, hg, fun m v hv => ?_⟩
  have hm : m < 7 := (List.getElem?_eq_some_iff.1 hv).1
  have := hc (k * 7 + m) v (by
    rw [flat_get 7 _ _ _ hR hm, List.getElem?_eq_getElem (by simpa using hk)]
    simpa using hv)
  rw [← Nat.add_assoc] at this
  exact this
theorem Dk.rd {B : Nat} {w0 w : World} {p gs : Nat} {S : Sp} (h : Dk B w0 w p gs S) {D : Nat} {A : Option Addr} {xs : List Value} (hr : Rd w0 D A xs) (hD : D ≤ B) : Rd w D A xs := hr.below h.below hD
theorem Dk.okA {B : Nat} {w0 w : World} {p gs : Nat} {S : Sp} (h : Dk B w0 w p gs S) {D : Nat} {X : Act0} (hx : X.OK w0 D) (hD : D ≤ B) : X.OK w D := ⟨h.rd hx.rd hD, hx.p, hx.pn, hx.n⟩
theorem Dk.gs {B : Nat} {w0 w : World} {p gs : Nat} {S : Sp} (h : Dk B w0 w p gs S) : B ≤ gs := by
  obtain ⟨vw, _, h2, _⟩ := h
  exact h2 gs (by simp [fpD])
theorem mk0_read (n : Nat) : (Sp.mk0 n).secs.length = n := by simp [Sp.mk0]
end Go.Proofs.Ytogchfpecbmocaa
/-
  Two disks side by side: the project's, the answer's own.
-/
namespace Go.Proofs.Ytogchfpecbmocaa
open Go.RowKit

/-- S lies at p, T at q, apart, both made since w0 -/
def Tw (w0 w : World) (p gs q gl gm cl cm : Nat) (S T : Sp) : Prop :=
  ∃ vd vr, HasD w p gs vd S ∧ HasR w q gl gm cl cm vr T ∧ (∀ b ∈ fpD p gs vd, b ∉ fpR q gl gm vr) ∧ (∀ b ∈ fpD p gs vd, w0.heap.size ≤ b) ∧ (∀ b ∈ fpR q gl gm vr, w0.heap.size ≤ b) ∧ Fr w0 w []
section
variable {w0 w w' : World} {p gs q gl gm cl cm : Nat} {S S' T T' : Sp}
theorem Tw.frame (h : Tw w0 w p gs q gl gm cl cm S T) : Fr w0 w [] := by
  obtain ⟨_, _, _, _, _, _, _, h⟩ := h
  exact h
theorem Tw.fr (h : Tw w0 w p gs q gl gm cl cm S T) (hf : Fr w w' []) : Tw w0 w' p gs q gl gm cl cm S T := by
  obtain ⟨vd, vr, h1, h2, h3, h4, h5, h6⟩ := h
  exact ⟨vd, vr, h1.fr hf (by simp), h2.fr hf (by simp), h3, h4, h5, h6.trans hf (by simp)⟩
theorem Tw.hasD (h : Tw w0 w p gs q gl gm cl cm S T) : ∃ vd, HasD w p gs vd S := by obtain ⟨vd, _, h, _⟩ := h; exact ⟨vd, h⟩
theorem Tw.hasR (h : Tw w0 w p gs q gl gm cl cm S T) : ∃ vr, HasR w q gl gm cl cm vr T := by obtain ⟨_, vr, _, h, _⟩ := h; exact ⟨vr, h⟩
theorem Tw.stepD {vd vr : Value} (h1 : HasD w p gs vd S) (h2 : HasR w q gl gm cl cm vr T) (h3 : ∀ b ∈ fpD p gs vd, b ∉ fpR q gl gm vr) (h4 : ∀ b ∈ fpD p gs vd, w0.heap.size ≤ b) (h5 : ∀ b ∈ fpR q gl gm vr, w0.heap.size ≤ b) (h6 : Fr w0 w [])
    (hd : DX w p gs vd S' w') : Tw w0 w' p gs q gl gm cl cm S' T := by
  obtain ⟨vd', k1, k2, k3⟩ := hd
  have hs := h6.size
  refine ⟨vd', vr, k1, h2.fr k2 (fun b hb hn => h3 b hn hb), ?_, ?_, h5, h6.trans k2 (fun b hb hlt => ?_)⟩
  · intro b hb
    simp only [fpD, List.mem_cons, Option.mem_toList] at hb
    rcases hb with rfl | rfl | hb
    · exact h3 _ (by simp [fpD])
    · exact h3 _ (by simp [fpD])
    · rcases k3 b hb with h | h
      · exact h3 b (by simp [fpD, h])
      · intro hr
        have := h2.lt b hr
        omega
  · intro b hb
    simp only [fpD, List.mem_cons, Option.mem_toList] at hb
    rcases hb with rfl | rfl | hb
    · exact h4 _ (by simp [fpD])
    · exact h4 _ (by simp [fpD])
    · rcases k3 b hb with h | h
      · exact h4 b (by simp [fpD, h])
      · omega
  · have := h4 b hb
    omega
theorem Tw.stepR {vd vr : Value} (h1 : HasD w p gs vd S) (h2 : HasR w q gl gm cl cm vr T) (h3 : ∀ b ∈ fpD p gs vd, b ∉ fpR q gl gm vr) (h4 : ∀ b ∈ fpD p gs vd, w0.heap.size ≤ b) (h5 : ∀ b ∈ fpR q gl gm vr, w0.heap.size ≤ b) (h6 : Fr w0 w [])
    (hd : RX w q gl gm cl cm vr T' w') : Tw w0 w' p gs q gl gm cl cm S T' := by
  obtain ⟨vr', k1, k2, k3⟩ := hd
  have hs := h6.size
  refine ⟨vd, vr', h1.fr k2 h3, k1, ?_, h4, ?_, h6.trans k2 (fun b hb hlt => ?_)⟩
  · intro b hb hr
    simp only [fpR, List.mem_cons, Option.mem_toList] at hr
    rcases hr with rfl | rfl | rfl | hr
    · exact h3 _ hb (by simp [fpR])
    · exact h3 _ hb (by simp [fpR])
    · exact h3 _ hb (by simp [fpR])
    · rcases k3 b hr with h | h
      · exact h3 b hb (by simp [fpR, h])
      · have := h1.lt b hb
        omega
  · intro b hb
    simp only [fpR, List.mem_cons, Option.mem_toList] at hb
    rcases hb with rfl | rfl | rfl | hb
    · exact h5 _ (by simp [fpR])
    · exact h5 _ (by simp [fpR])
    · exact h5 _ (by simp [fpR])
    · rcases k3 b hb with h | h
      · exact h5 b (by simp [fpR, h])
      · omega
  · have := h5 b hb
    omega
theorem Tw.okA (h : Tw w0 w p gs q gl gm cl cm S T) {D : Nat} {X : Act0} (hx : X.OK w0 D) (hD : D ≤ w0.heap.size) : X.OK w D := ⟨h.frame.rd hx.rd hD (by simp), hx.p, hx.pn, hx.n⟩
/-! the calls that only look -/
theorem tw_on (h : Tw w0 w p gs q gl gm cl cm S T) : Calls Try.prog 32 #[dptr p] w fun e w' => e = .returned (.bool S.on) ∧ w' = w := by
  obtain ⟨vd, hd⟩ := h.hasD
  exact (on_any p gs vd S w hd).mono fun _ _ ⟨a, b⟩ => ⟨a, b.symm⟩
theorem tw_steps (h : Tw w0 w p gs q gl gm cl cm S T) : Calls Try.prog 31 #[dptr p] w fun e w' => e = .returned (.int .i64 (S.count : Int)) ∧ w' = w := by
  obtain ⟨vd, hd⟩ := h.hasD
  exact (steps_any p gs vd S w hd).mono fun _ _ ⟨a, b⟩ => ⟨a, b.symm⟩
theorem tw_is (h : Tw w0 w p gs q gl gm cl cm S T) (i : Int) {b : Bool} (hr : decide (T.is i) = b) : Calls Try.prog 59 #[dptr q, .int .i64 i] w fun e w' => e = .returned (.bool b) ∧ w' = w := by
  subst hr
  obtain ⟨vr, hd⟩ := h.hasR
  exact (ris_any i q gl gm cl cm vr T w hd).mono fun _ _ ⟨a, b⟩ => ⟨a, b.symm⟩
theorem tw_read (h : Tw w0 w p gs q gl gm cl cm S T) (hc : S.count ≤ 1048576) (i : Int) {l : List UInt8} {x : Int} (hr : S.read i = (l, x)) : Calls Try.prog 33 #[dptr p, .int .i64 i] w fun e w' => e = .returned (.tuple #[.string ⟨l.toArray⟩, .int .i64 x]) ∧ Tw w0 w' p gs q gl gm cl cm S T := by
  obtain ⟨vd, hd⟩ := h.hasD
  refine (read_any p gs vd S i w hd hc).mono ?_
  rw [hr]
  rintro e w' ⟨rfl, n, rfl⟩
  exact ⟨rfl, h.fr ⟨rfl, rfl, rfl, Nat.le_refl _, fun _ _ _ => rfl⟩⟩
theorem tw_rread (h : Tw w0 w p gs q gl gm cl cm S T) (hc : T.count ≤ 1048576) (i : Int) {l : List UInt8} {x : Int} (hr : T.read i = (l, x)) : Calls Try.prog 34 #[dptr q, .int .i64 i] w fun e w' => e = .returned (.tuple #[.string ⟨l.toArray⟩, .int .i64 x]) ∧ w' = w := by
  obtain ⟨vr, hd⟩ := h.hasR
  refine (rread_any q gl gm cl cm vr T i w hd hc).mono ?_
  rw [hr]
  rintro e w' ⟨rfl, rfl⟩
  exact ⟨rfl, rfl⟩
end
/-- both, new -/
theorem Tw.new {wa w1 w2 : World} {n p gs q gl gm cl cm : Nat} (hd : Dk wa.heap.size wa w1 p gs (Sp.mk0 n)) (hr : HasR w2 q gl gm cl cm (.slice none 0 0) (Sp.mk0 n)) (hf : Fr w1 w2 []) (hq : w1.heap.size ≤ q) (hl : w1.heap.size ≤ gl) (hm : w1.heap.size ≤ gm) :
    Tw wa w2 p gs q gl gm cl cm (Sp.mk0 n) (Sp.mk0 n) := by
  have hfr := hd.frame
  obtain ⟨vd, h1, h2, h3, h4⟩ := hd
  have hs := hfr.size
  refine ⟨vd, .slice none 0 0, h1.fr hf (by simp), hr, ?_, h2, ?_, hfr.trans hf (by simp)⟩
  · intro b hb hn
    have := h1.lt b hb
    simp [fpR, Value.ownBlock] at hn
    omega
  · intro b hb
    simp [fpR, Value.ownBlock] at hb
    omega
end Go.Proofs.Ytogchfpecbmocaa
