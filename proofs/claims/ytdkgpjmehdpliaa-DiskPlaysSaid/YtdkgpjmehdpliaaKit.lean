/-
  The disk's calls, as the laws call them: a disk of the law's own, all older memory as it was.
-/
import Derived.Test.YtdkgpjmehdpliaaMix
namespace Go.Proofs.Ytdkgpjmehdpliaa
open Go.RowKit

/-- a disk S at p, all of its blocks from B on; below B the world is as w0 -/
def Dk (B : Nat) (w0 w : World) (p gs : Nat) (S : Sp) : Prop := ∃ vw, HasD w p gs vw S ∧ (∀ b ∈ fpD p gs vw, B ≤ b) ∧ Below B w0 w ∧ B ≤ w.heap.size
/-- an answer, and the disk -/
def DP (B : Nat) (w0 : World) (p gs : Nat) (S' : Sp) (x : Int) (e : Ending) (w' : World) : Prop := e = .returned (.int .i64 x) ∧ Dk B w0 w' p gs S'

section
variable {B : Nat} {w0 w w' : World} {p gs : Nat} {S S' : Sp}
theorem Dk.below (h : Dk B w0 w p gs S) : Below B w0 w := by obtain ⟨_, _, _, h, _⟩ := h; exact h
theorem Dk.wf (h : Dk B w0 w p gs S) : S.WF := by obtain ⟨_, h, _⟩ := h; exact h.wf
theorem Dk.fr (h : Dk B w0 w p gs S) (hf : Fr w w' []) : Dk B w0 w' p gs S := by
  obtain ⟨vw, h1, h2, h3, h4⟩ := h
  exact ⟨vw, h1.fr hf (by simp), h2, h3.trans (hf.below (by simp) h4), Nat.le_trans h4 hf.size⟩
theorem Dk.alloc (h : Dk B w0 w p gs S) (o : Obj) : Dk B w0 (w.alloc o) p gs S := h.fr ((Fr.refl w []).alloc o)
theorem Dk.drewN (h : Dk B w0 w p gs S) (n : Nat) : Dk B w0 (w.drewN n) p gs S := h.fr ⟨rfl, rfl, rfl, Nat.le_refl _, fun _ _ _ => rfl⟩
theorem Dk.drew (h : Dk B w0 w p gs S) : Dk B w0 w.drew p gs S := h.drewN 1
theorem Dk.next {vw vw' : Value} (h1 : HasD w p gs vw S) (h2 : ∀ b ∈ fpD p gs vw, B ≤ b) (h3 : Below B w0 w) (h4 : B ≤ w.heap.size) (k1 : HasD w' p gs vw' S') (k2 : Fr w w' (fpD p gs vw)) (k3 : ∀ g, vw'.ownBlock = some g → vw.ownBlock = some g ∨ w.heap.size ≤ g) :
    Dk B w0 w' p gs S' := by
  refine ⟨vw', k1, ?_, h3.trans (k2.below h2 h4), Nat.le_trans h4 k2.size⟩
  intro b hb
  simp only [fpD, List.mem_cons, Option.mem_toList] at hb
  rcases hb with rfl | rfl | hb
  · exact h2 _ (by simp [fpD])
  · exact h2 _ (by simp [fpD])
  · rcases k3 b hb with h | h
    · exact h2 b (by simp [fpD, h])
    · omega
theorem Dk.call {P : Program} {f : FuncId} {args : Array Value} {r : Sp × Int} {x : Int} (h : Dk B w0 w p gs S) (hr : r = (S', x)) (H : ∀ vw, HasD w p gs vw S → Calls P f args w (DE w p gs vw r)) : Calls P f args w (DP B w0 p gs S' x) := by
  subst hr
  obtain ⟨vw, h1, h2, h3, h4⟩ := h
  refine (H vw h1).mono ?_
  rintro e w' ⟨vw', rfl, k1, k2, k3⟩
  exact ⟨rfl, Dk.next h1 h2 h3 h4 k1 k2 k3⟩
theorem Dk.call1 {P : Program} {f : FuncId} {args : Array Value} {r : Sp × Int} {x : Int} (h : Dk B w0 w p gs S) (hr : r = (S', x)) (H : ∀ vw, HasD w p gs vw S → Calls P f args w fun e w' => e = .returned (.int .i64 r.2) ∧ HasD w' p gs vw r.1 ∧ Fr w w' [p]) :
    Calls P f args w (DP B w0 p gs S' x) :=
  h.call hr fun vw hv => (H vw hv).mono fun e w' ⟨k1, k2, k3⟩ => ⟨vw, k1, k2, k3.mono (by simp [fpD]), fun _ hg => .inl hg⟩
theorem Dk.ask {P : Program} {f : FuncId} {args : Array Value} {x : Ending} (h : Dk B w0 w p gs S) (H : ∀ vw, HasD w p gs vw S → Calls P f args w fun e w' => e = x ∧ w = w') : Calls P f args w fun e w' => e = x ∧ w' = w := by
  obtain ⟨vw, h1, _⟩ := h
  exact (H vw h1).mono fun e w' ⟨k1, k2⟩ => ⟨k1, k2.symm⟩

theorem dk_write (h : Dk B w0 w p gs S) (hc : S.count ≤ 1048576) (i : Int) (s : ByteArray) {x : Int} (hr : S.write i (sb s) = (S', x)) : Calls Try.prog 24 #[dptr p, .int .i64 i, .string s] w (DP B w0 p gs S' x) :=
  h.call hr fun vw hv => write_any p gs vw S i s w hv hc
theorem dk_flush (h : Dk B w0 w p gs S) (hc : S.count ≤ 1048576) {x : Int} (hr : S.flush = (S', x)) : Calls Try.prog 26 #[dptr p] w (DP B w0 p gs S' x) :=
  h.call hr fun vw hv => flush_any p gs vw S w hv hc
theorem dk_fuse (h : Dk B w0 w p gs S) (n : Int) (hn : n ≤ 9223372036854775807) {x : Int} (hr : S.fuse n = (S', x)) : Calls Try.prog 29 #[dptr p, .int .i64 n] w (DP B w0 p gs S' x) :=
  h.call1 hr fun vw hv => fuse_any p gs vw S n w hv hn
theorem dk_cut (h : Dk B w0 w p gs S) {x : Int} (hr : S.cut = (S', x)) : Calls Try.prog 22 #[dptr p] w (DP B w0 p gs S' x) :=
  h.call1 hr fun vw hv => cut_any p gs vw S w hv
theorem dk_start (h : Dk B w0 w p gs S) (hc : S.count ≤ 1048576) (picks : List Int) (A : Option Addr) (l c D : Nat) (hl : l = picks.length) (hrd : Rd w D A (ints picks)) (hp : ∀ x ∈ picks, x ≤ 9223372036854775807) (hpn : picks.length ≤ 9223372036854775807)
    (hA : picks ≠ [] → ∀ g o, A = some ⟨g, o, none⟩ → g ≠ gs) {x : Int} (hr : S.start picks = (S', x)) : Calls Try.prog 23 #[dptr p, .slice A l c] w (DP B w0 p gs S' x) := by
  subst hl
  exact h.call hr fun vw hv => start_any p gs vw S picks A c D w hv hc hrd hp hpn hA
/-- Start, its picks a row that was just made -/
theorem dk_start_new (h : Dk B w0 w p gs S) (hc : S.count ≤ 1048576) (picks : List Int) (hp : ∀ x ∈ picks, x ≤ 9223372036854775807) (hpn : picks.length ≤ 9223372036854775807) {x : Int} (hr : S.start picks = (S', x)) (l : Nat) (hl : l = picks.length) :
    Calls Try.prog 23 #[dptr p, .slice (some ⟨w.heap.size, 0, none⟩) l l] (w.alloc (.cells (ints picks).toArray 3)) (DP B w0 p gs S' x) := by
  have hlt : gs < w.heap.size := by obtain ⟨vw, hv, _⟩ := h; exact hv.secs.lt
  refine dk_start (h.alloc _) hc picks _ l l (w.heap.size + 1) hl ?_ hp hpn ?_ hr
  · have := Row.new w 3 (ints picks).toArray
    exact this.rd (by omega)
  · intro _ g o e
    cases e
    omega
theorem dk_rot (h : Dk B w0 w p gs S) (i a m : Int) {x : Int} (hr : S.rot i a m = (S', x)) : Calls Try.prog 30 #[dptr p, .int .i64 i, .int .i64 a, .int .i64 m] w (DP B w0 p gs S' x) :=
  h.call hr fun vw hv => rot_any p gs vw S i a m w hv
theorem dk_on (h : Dk B w0 w p gs S) {b : Bool} (hr : S.on = b) : Calls Try.prog 14 #[dptr p] w fun e w' => e = .returned (.bool b) ∧ w' = w := by
  subst hr
  exact h.ask fun vw hv => on_any p gs vw S w hv
theorem dk_steps (h : Dk B w0 w p gs S) : Calls Try.prog 16 #[dptr p] w fun e w' => e = .returned (.int .i64 (S.count : Int)) ∧ w' = w := h.ask fun vw hv => steps_any p gs vw S w hv
theorem dk_pending (h : Dk B w0 w p gs S) : Calls Try.prog 15 #[dptr p] w fun e w' => e = .returned (.int .i64 (S.way.length : Int)) ∧ w' = w := h.ask fun vw hv => pending_any p gs vw S w hv
theorem dk_marked (h : Dk B w0 w p gs S) (i : Int) {b : Bool} (hr : (decide (S.is i) && (S.secs.getD i.toNat ⟨[], false⟩).marked) = b) : Calls Try.prog 19 #[dptr p, .int .i64 i] w fun e w' => e = .returned (.bool b) ∧ w' = w := by
  subst hr
  exact h.ask fun vw hv => marked_any p gs vw S i w hv
theorem dk_lasts (h : Dk B w0 w p gs S) (i : Int) {l : List UInt8} (hr : (if S.is i then (S.secs.getD i.toNat ⟨[], false⟩).lasts else []) = l) : Calls Try.prog 21 #[dptr p, .int .i64 i] w fun e w' => e = .returned (.string ⟨l.toArray⟩) ∧ w' = w := by
  subst hr
  exact h.ask fun vw hv => lasts_any p gs vw S i w hv
/-- a text and a number -/
def DR (B : Nat) (w0 : World) (p gs : Nat) (S : Sp) (l : List UInt8) (x : Int) (e : Ending) (w' : World) : Prop := e = .returned (.tuple #[.string ⟨l.toArray⟩, .int .i64 x]) ∧ Dk B w0 w' p gs S
theorem dk_read (h : Dk B w0 w p gs S) (hc : S.count ≤ 1048576) (i : Int) {l : List UInt8} {x : Int} (hr : S.read i = (l, x)) : Calls Try.prog 17 #[dptr p, .int .i64 i] w (DR B w0 p gs S l x) := by
  obtain ⟨vw, h1, h2⟩ := h
  refine (read_any p gs vw S i w h1 hc).mono ?_
  rw [hr]
  rintro e w' ⟨rfl, n, rfl⟩
  exact ⟨rfl, Dk.drewN ⟨vw, h1, h2⟩ n⟩
/-- a new disk -/
def DN (w : World) (n : Nat) (e : Ending) (w' : World) : Prop := ∃ p gs, e = .returned (.tuple #[dptr p, .int .i64 0]) ∧ Dk w.heap.size w w' p gs (Sp.mk0 n)
theorem dk_new (n : Nat) (w : World) (h1 : 1 ≤ n) (h2 : n ≤ 64) : Calls Try.prog 10 #[.int .i64 (n : Int)] w (DN w n) := by
  refine (new_yes n w h1 h2).mono ?_
  rintro e w' ⟨p, gs, rfl, k1, k2, k3, k4⟩
  refine ⟨p, gs, rfl, _, k1, ?_, k2.below (by simp) (Nat.le_refl _), k2.size⟩
  intro b hb
  simp [fpD, Value.ownBlock] at hb
  rcases hb with rfl | rfl <;> assumption
theorem dk_sector (h : Dk B w0 w p gs S) (c : UInt8) : Calls Try.prog 25 #[.int .u8 (c.toNat : Int)] w fun e w' => e = .returned (.string ⟨(b384 c).toArray⟩) ∧ Dk B w0 w' p gs S :=
  (sector_any c w).mono fun _ _ ⟨k1, k2⟩ => ⟨k1, h.fr k2⟩
theorem dk_sector_l (h : Dk B w0 w p gs S) (c : UInt8) {l : List UInt8} (hl : b384 c = l) : Calls Try.prog 25 #[.int .u8 (c.toNat : Int)] w fun e w' => e = .returned (.string ⟨l.toArray⟩) ∧ Dk B w0 w' p gs S := by
  subst hl
  exact dk_sector h c
theorem dk_mix (h : Dk B w0 w p gs S) (a b : List UInt8) (c : Nat) (ha : a.length = 384) (hb : b.length = 384) (hc : c ≤ 384) : Calls Try.prog 28 #[.string ⟨a.toArray⟩, .string ⟨b.toArray⟩, .int .i64 (c : Int)] w fun e w' => e = .returned (.string ⟨(mixS a b c).toArray⟩) ∧ Dk B w0 w' p gs S := by
  have sz : ∀ l : List UInt8, (⟨l.toArray⟩ : ByteArray).size = l.length := fun l => by rw [← sb_len]; simp [sb]
  have H := mix_any ⟨a.toArray⟩ ⟨b.toArray⟩ c w (by rw [sz, ha]) (by rw [sz, hb]) hc
  refine H.mono ?_
  rintro e w' ⟨rfl, k2⟩
  exact ⟨by simp [sb, str], h.fr k2⟩
end
end Go.Proofs.Ytdkgpjmehdpliaa
