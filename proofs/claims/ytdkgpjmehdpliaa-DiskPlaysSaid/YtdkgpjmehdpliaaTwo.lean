/-
  Two disks side by side: the project's, the answer's own.
-/
import Derived.Test.YtdkgpjmehdpliaaRefN
import Derived.Test.YtdkgpjmehdpliaaDof
import Derived.Test.YtdkgpjmehdpliaaLasts
namespace Go.Proofs.Ytdkgpjmehdpliaa
open Go.RowKit

/-- S lies at p, T at q, apart, both made since w0 -/
def Tw (w0 w : World) (p gs q gl gm cl cm : Nat) (S T : Sp) : Prop :=
  ∃ vd vr, HasD w p gs vd S ∧ HasR w q gl gm cl cm vr T ∧ (∀ b ∈ fpD p gs vd, b ∉ fpR q gl gm vr) ∧ (∀ b ∈ fpD p gs vd, w0.heap.size ≤ b) ∧ (∀ b ∈ fpR q gl gm vr, w0.heap.size ≤ b) ∧ Fr w0 w []
section
variable {w0 w w' : World} {p gs q gl gm cl cm : Nat} {S S' T T' : Sp}
theorem Tw.frame (h : Tw w0 w p gs q gl gm cl cm S T) : Fr w0 w [] := by
  obtain ⟨_, _, _, _, _, _, _, h⟩ := h
  exact h
theorem Tw.fr (h : Tw w0 w p gs q gl gm cl cm S T) (hf : Fr w w' []) : Tw w0 w' p gs q gl gm cl cm S T := by
  obtain ⟨vd, vr, h1, h2, h3, h4, h5, h6⟩ := h
  exact ⟨vd, vr, h1.fr hf (by simp), h2.fr hf (by simp), h3, h4, h5, h6.trans hf (by simp)⟩
theorem Tw.hasD (h : Tw w0 w p gs q gl gm cl cm S T) : ∃ vd, HasD w p gs vd S := by obtain ⟨vd, _, h, _⟩ := h; exact ⟨vd, h⟩
theorem Tw.hasR (h : Tw w0 w p gs q gl gm cl cm S T) : ∃ vr, HasR w q gl gm cl cm vr T := by obtain ⟨_, vr, _, h, _⟩ := h; exact ⟨vr, h⟩

theorem Tw.stepD {vd vr : Value} (h1 : HasD w p gs vd S) (h2 : HasR w q gl gm cl cm vr T) (h3 : ∀ b ∈ fpD p gs vd, b ∉ fpR q gl gm vr) (h4 : ∀ b ∈ fpD p gs vd, w0.heap.size ≤ b) (h5 : ∀ b ∈ fpR q gl gm vr, w0.heap.size ≤ b) (h6 : Fr w0 w [])
    (hd : DX w p gs vd S' w') : Tw w0 w' p gs q gl gm cl cm S' T := by
  obtain ⟨vd', k1, k2, k3⟩ := hd
  have hs := h6.size
  refine ⟨vd', vr, k1, h2.fr k2 (fun b hb hn => h3 b hn hb), ?_, ?_, h5, h6.trans k2 (fun b hb hlt => ?_)⟩
  · intro b hb
    simp only [fpD, List.mem_cons, Option.mem_toList] at hb
    rcases hb with rfl | rfl | hb
    · exact h3 _ (by simp [fpD])
    · exact h3 _ (by simp [fpD])
    · rcases k3 b hb with h | h
      · exact h3 b (by simp [fpD, h])
      · intro hr
        have := h2.lt b hr
        omega
  · intro b hb
    simp only [fpD, List.mem_cons, Option.mem_toList] at hb
    rcases hb with rfl | rfl | hb
    · exact h4 _ (by simp [fpD])
    · exact h4 _ (by simp [fpD])
    · rcases k3 b hb with h | h
      · exact h4 b (by simp [fpD, h])
      · omega
  · have := h4 b hb
    omega
theorem Tw.stepR {vd vr : Value} (h1 : HasD w p gs vd S) (h2 : HasR w q gl gm cl cm vr T) (h3 : ∀ b ∈ fpD p gs vd, b ∉ fpR q gl gm vr) (h4 : ∀ b ∈ fpD p gs vd, w0.heap.size ≤ b) (h5 : ∀ b ∈ fpR q gl gm vr, w0.heap.size ≤ b) (h6 : Fr w0 w [])
    (hd : RX w q gl gm cl cm vr T' w') : Tw w0 w' p gs q gl gm cl cm S T' := by
  obtain ⟨vr', k1, k2, k3⟩ := hd
  have hs := h6.size
  refine ⟨vd, vr', h1.fr k2 h3, k1, ?_, h4, ?_, h6.trans k2 (fun b hb hlt => ?_)⟩
  · intro b hb hr
    simp only [fpR, List.mem_cons, Option.mem_toList] at hr
    rcases hr with rfl | rfl | rfl | hr
    · exact h3 _ hb (by simp [fpR])
    · exact h3 _ hb (by simp [fpR])
    · exact h3 _ hb (by simp [fpR])
    · rcases k3 b hr with h | h
      · exact h3 b hb (by simp [fpR, h])
      · have := h1.lt b hb
        omega
  · intro b hb
    simp only [fpR, List.mem_cons, Option.mem_toList] at hb
    rcases hb with rfl | rfl | rfl | hb
    · exact h5 _ (by simp [fpR])
    · exact h5 _ (by simp [fpR])
    · exact h5 _ (by simp [fpR])
    · rcases k3 b hb with h | h
      · exact h5 b (by simp [fpR, h])
      · omega
  · have := h5 b hb
    omega
theorem Tw.okA (h : Tw w0 w p gs q gl gm cl cm S T) {D : Nat} {X : Act0} (hx : X.OK w0 D) (hD : D ≤ w0.heap.size) : X.OK w D := ⟨h.frame.rd hx.rd hD (by simp), hx.p, hx.pn, hx.n⟩
theorem tw_does (h : Tw w0 w p gs q gl gm cl cm S T) (hc : S.count ≤ 1048576) (x : Act0) (D : Nat) (hx : x.OK w0 D) (hD : D ≤ w0.heap.size) {e : Int} (hr : S.does x = (S', e)) :
    Calls Try.prog 12 #[dptr p, x.val] w fun e' w' => e' = .returned (.int .i64 e) ∧ Tw w0 w' p gs q gl gm cl cm S' T := by
  have hx' := h.okA hx hD
  obtain ⟨vd, vr, h1, h2, h3, h4, h5, h6⟩ := h
  refine (d_does h1 hc x D hx' (fun b hb => Nat.le_trans hD (h4 b hb)) hr).mono ?_
  rintro e' w' ⟨k0, k1⟩
  exact ⟨k0, Tw.stepD h1 h2 h3 h4 h5 h6 k1⟩
theorem tw_means (h : Tw w0 w p gs q gl gm cl cm S T) (hc : T.count ≤ 1048576) (x : Act0) (D : Nat) (hx : x.OK w0 D) (hD : D ≤ w0.heap.size) {e : Int} (hr : T.does x = (T', e)) :
    Calls Try.prog 13 #[dptr q, x.val] w fun e' w' => e' = .returned (.int .i64 e) ∧ Tw w0 w' p gs q gl gm cl cm S T' := by
  have hx' := h.okA hx hD
  obtain ⟨vd, vr, h1, h2, h3, h4, h5, h6⟩ := h
  refine (r_does h2 hc x D hx' (fun b hb => Nat.le_trans hD (h5 b hb)) hr).mono ?_
  rintro e' w' ⟨k0, k1⟩
  exact ⟨k0, Tw.stepR h1 h2 h3 h4 h5 h6 k1⟩
/-! the calls that only look -/
theorem tw_on (h : Tw w0 w p gs q gl gm cl cm S T) : Calls Try.prog 14 #[dptr p] w fun e w' => e = .returned (.bool S.on) ∧ w' = w := by
  obtain ⟨vd, hd⟩ := h.hasD
  exact (on_any p gs vd S w hd).mono fun _ _ ⟨a, b⟩ => ⟨a, b.symm⟩
theorem tw_steps (h : Tw w0 w p gs q gl gm cl cm S T) : Calls Try.prog 16 #[dptr p] w fun e w' => e = .returned (.int .i64 (S.count : Int)) ∧ w' = w := by
  obtain ⟨vd, hd⟩ := h.hasD
  exact (steps_any p gs vd S w hd).mono fun _ _ ⟨a, b⟩ => ⟨a, b.symm⟩
theorem tw_pending (h : Tw w0 w p gs q gl gm cl cm S T) : Calls Try.prog 15 #[dptr p] w fun e w' => e = .returned (.int .i64 (S.way.length : Int)) ∧ w' = w := by
  obtain ⟨vd, hd⟩ := h.hasD
  exact (pending_any p gs vd S w hd).mono fun _ _ ⟨a, b⟩ => ⟨a, b.symm⟩
theorem tw_marked (h : Tw w0 w p gs q gl gm cl cm S T) (i : Int) {b : Bool} (hr : (decide (S.is i) && (S.secs.getD i.toNat ⟨[], false⟩).marked) = b) : Calls Try.prog 19 #[dptr p, .int .i64 i] w fun e w' => e = .returned (.bool b) ∧ w' = w := by
  subst hr
  obtain ⟨vd, hd⟩ := h.hasD
  exact (marked_any p gs vd S i w hd).mono fun _ _ ⟨a, b⟩ => ⟨a, b.symm⟩
theorem tw_lasts (h : Tw w0 w p gs q gl gm cl cm S T) (i : Int) {l : List UInt8} (hr : (if S.is i then (S.secs.getD i.toNat ⟨[], false⟩).lasts else []) = l) : Calls Try.prog 21 #[dptr p, .int .i64 i] w fun e w' => e = .returned (.string ⟨l.toArray⟩) ∧ w' = w := by
  subst hr
  obtain ⟨vd, hd⟩ := h.hasD
  exact (lasts_any p gs vd S i w hd).mono fun _ _ ⟨a, b⟩ => ⟨a, b.symm⟩
theorem tw_is (h : Tw w0 w p gs q gl gm cl cm S T) (i : Int) {b : Bool} (hr : decide (T.is i) = b) : Calls Try.prog 20 #[dptr q, .int .i64 i] w fun e w' => e = .returned (.bool b) ∧ w' = w := by
  subst hr
  obtain ⟨vr, hd⟩ := h.hasR
  exact (ris_any i q gl gm cl cm vr T w hd).mono fun _ _ ⟨a, b⟩ => ⟨a, b.symm⟩
theorem tw_read (h : Tw w0 w p gs q gl gm cl cm S T) (hc : S.count ≤ 1048576) (i : Int) {l : List UInt8} {x : Int} (hr : S.read i = (l, x)) : Calls Try.prog 17 #[dptr p, .int .i64 i] w fun e w' => e = .returned (.tuple #[.string ⟨l.toArray⟩, .int .i64 x]) ∧ Tw w0 w' p gs q gl gm cl cm S T := by
  obtain ⟨vd, hd⟩ := h.hasD
  refine (read_any p gs vd S i w hd hc).mono ?_
  rw [hr]
  rintro e w' ⟨rfl, n, rfl⟩
  exact ⟨rfl, h.fr ⟨rfl, rfl, rfl, Nat.le_refl _, fun _ _ _ => rfl⟩⟩
theorem tw_rread (h : Tw w0 w p gs q gl gm cl cm S T) (hc : T.count ≤ 1048576) (i : Int) {l : List UInt8} {x : Int} (hr : T.read i = (l, x)) : Calls Try.prog 18 #[dptr q, .int .i64 i] w fun e w' => e = .returned (.tuple #[.string ⟨l.toArray⟩, .int .i64 x]) ∧ w' = w := by
  obtain ⟨vr, hd⟩ := h.hasR
  refine (rread_any q gl gm cl cm vr T i w hd hc).mono ?_
  rw [hr]
  rintro e w' ⟨rfl, rfl⟩
  exact ⟨rfl, rfl⟩
end
/-- both, new -/
theorem Tw.new {wa w1 w2 : World} {n p gs q gl gm cl cm : Nat} (hd : Dk wa.heap.size wa w1 p gs (Sp.mk0 n)) (hr : HasR w2 q gl gm cl cm (.slice none 0 0) (Sp.mk0 n)) (hf : Fr w1 w2 []) (hq : w1.heap.size ≤ q) (hl : w1.heap.size ≤ gl) (hm : w1.heap.size ≤ gm) :
    Tw wa w2 p gs q gl gm cl cm (Sp.mk0 n) (Sp.mk0 n) := by
  have hfr := hd.frame
  obtain ⟨vd, h1, h2, h3, h4⟩ := hd
  have hs := hfr.size
  refine ⟨vd, .slice none 0 0, h1.fr hf (by simp), hr, ?_, h2, ?_, hfr.trans hf (by simp)⟩
  · intro b hb hn
    have := h1.lt b hb
    simp [fpR, Value.ownBlock] at hn
    omega
  · intro b hb
    simp [fpR, Value.ownBlock] at hb
    omega
end Go.Proofs.Ytdkgpjmehdpliaa
