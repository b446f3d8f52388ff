/-
  The calls that the laws play: what an Act is, text, does.
-/
import Derived.Test.YtafbeepacncooaaDoorM14
import Derived.Deep.RegionHeld3
namespace Go.Proofs.YtafbeepacncooaaDoor
open Go.RowKit

structure Act0 where
  kind : Int
  i : Int
  at_ : Int
  n : Int
  c : UInt8
  text : ByteArray
  A : Option Addr
  cap : Nat
  picks : List Int
def Act0.cells (x : Act0) : List Value := [.int .i64 x.kind, .int .i64 x.i, .int .i64 x.at_, .int .i64 x.n, .int .u8 (x.c.toNat : Int), .string x.text, .slice x.A x.picks.length x.cap]
def Act0.val (x : Act0) : Value := .agg #[.int .i64 x.kind, .int .i64 x.i, .int .i64 x.at_, .int .i64 x.n, .int .u8 (x.c.toNat : Int), .string x.text, .slice x.A x.picks.length x.cap]
/-- its picks lie below D; its numbers fit -/
structure Act0.OK (w : World) (D : Nat) (x : Act0) : Prop where
  rd : Rd w D x.A (ints x.picks)
  p : ∀ y ∈ x.picks, y ≤ 9223372036854775807
  pn : x.picks.length ≤ 9223372036854775807
  n : x.n ≤ 9223372036854775807
def Act0.bytes (x : Act0) : List UInt8 := if x.text.size = 0 then b384 x.c else sb x.text
/-- what a call does, on the disk -/
def Sp.does (S : Sp) (x : Act0) : Sp × Int :=
  if x.kind = 1 then S.write x.i x.bytes else if x.kind = 2 then S.flush else if x.kind = 3 then S.fuse x.n else if x.kind = 4 then S.cut
  else if x.kind = 5 then S.start x.picks else if x.kind = 6 then S.rot x.i x.at_ x.n else (S, (S.read x.i).2)
end Go.Proofs.YtafbeepacncooaaDoor
/-
  The walk of does, with its frame.
-/
namespace Go.Proofs.YtafbeepacncooaaDoor
open Go.RowKit

/-- what a call leaves of the disk, its frame with it -/
def DX (w : World) (p gs : Nat) (vw : Value) (S' : Sp) (w' : World) : Prop :=
  ∃ vw', HasD w' p gs vw' S' ∧ Fr w w' (fpD p gs vw) ∧ (∀ g, vw'.ownBlock = some g → vw.ownBlock = some g ∨ w.heap.size ≤ g)
def DY (w : World) (p gs : Nat) (vw : Value) (S' : Sp) (x : Int) (e : Ending) (w' : World) : Prop := e = .returned (.int .i64 x) ∧ DX w p gs vw S' w'
section
variable {w w1 w' : World} {p gs : Nat} {vw : Value} {S S' : Sp}
theorem DX.of (hf : Fr w w1 []) (h : DX w1 p gs vw S' w') : DX w p gs vw S' w' := by
  obtain ⟨vw', k1, k2, k3⟩ := h
  have hs := hf.size
  exact ⟨vw', k1, (hf.mono (fq := fpD p gs vw) (by simp)).trans k2 (fun b hb _ => hb), fun g hg => (k3 g hg).imp id (fun h => Nat.le_trans hs h)⟩
theorem DX.same (h : HasD w p gs vw S) : DX w p gs vw S w := ⟨vw, h, Fr.refl _ _, fun _ hg => .inl hg⟩
theorem dy {P : Program} {f : FuncId} {args : Array Value} {r : Sp × Int} {x : Int} (hr : r = (S', x)) (H : Calls P f args w (DE w p gs vw r)) : Calls P f args w (DY w p gs vw S' x) := by
  subst hr
  exact H.mono fun e w' ⟨vw', k0, k1, k2, k3⟩ => ⟨k0, vw', k1, k2, k3⟩
theorem dy_write (h : HasD w p gs vw S) (hc : S.count ≤ 1048576) (i : Int) (s : ByteArray) {x : Int} (hr : S.write i (sb s) = (S', x)) : Calls Tryd.prog 47 #[dptr p, .int .i64 i, .string s] w (DY w p gs vw S' x) :=
  dy hr (write_any p gs vw S i s w h hc)
theorem dy_flush (h : HasD w p gs vw S) (hc : S.count ≤ 1048576) {x : Int} (hr : S.flush = (S', x)) : Calls Tryd.prog 49 #[dptr p] w (DY w p gs vw S' x) :=
  dy hr (flush_any p gs vw S w h hc)
theorem dy_fuse (h : HasD w p gs vw S) (n : Int) (hn : n ≤ 9223372036854775807) {x : Int} (hr : S.fuse n = (S', x)) : Calls Tryd.prog 15 #[dptr p, .int .i64 n] w (DY w p gs vw S' x) :=
  dy hr ((fuse_any p gs vw S n w h hn).mono fun _ _ ⟨k1, k2, k3⟩ => ⟨vw, k1, k2, k3.mono (by simp [fpD]), fun _ hg => .inl hg⟩)
theorem dy_cut (h : HasD w p gs vw S) {x : Int} (hr : S.cut = (S', x)) : Calls Tryd.prog 29 #[dptr p] w (DY w p gs vw S' x) :=
  dy hr ((cut_any p gs vw S w h).mono fun _ _ ⟨k1, k2, k3⟩ => ⟨vw, k1, k2, k3.mono (by simp [fpD]), fun _ hg => .inl hg⟩)
theorem dy_start (h : HasD w p gs vw S) (hc : S.count ≤ 1048576) (picks : List Int) (A : Option Addr) (l c D : Nat) (hl : l = picks.length) (hrd : Rd w D A (ints picks)) (hp : ∀ x ∈ picks, x ≤ 9223372036854775807) (hpn : picks.length ≤ 9223372036854775807)
    (hA : picks ≠ [] → ∀ g o, A = some ⟨g, o, none⟩ → g ≠ gs) {x : Int} (hr : S.start picks = (S', x)) : Calls Tryd.prog 30 #[dptr p, .slice A l c] w (DY w p gs vw S' x) := by
  subst hl
  exact dy hr (start_any p gs vw S picks A c D w h hc hrd hp hpn hA)
theorem dy_rot (h : HasD w p gs vw S) (hc : S.count ≤ 1048576) (i a m : Int) {x : Int} (hr : S.rot i a m = (S', x)) : Calls Tryd.prog 31 #[dptr p, .int .i64 i, .int .i64 a, .int .i64 m] w (DY w p gs vw S' x) :=
  dy hr (have _ := hc; rot_any p gs vw S i a m w h)
theorem dy_read (h : HasD w p gs vw S) (hc : S.count ≤ 1048576) (i : Int) {l : List UInt8} {x : Int} (hr : S.read i = (l, x)) : Calls Tryd.prog 26 #[dptr p, .int .i64 i] w fun e w' => e = .returned (.tuple #[.string ⟨l.toArray⟩, .int .i64 x]) ∧ DX w p gs vw S w' := by
  refine (read_any p gs vw S i w h hc).mono ?_
  rw [hr]
  rintro e w' ⟨rfl, n, rfl⟩
  exact ⟨rfl, vw, h.fr (fp := []) ⟨rfl, rfl, rfl, Nat.le_refl _, fun _ _ _ => rfl⟩ (by simp), ⟨rfl, rfl, rfl, Nat.le_refl _, fun _ _ _ => rfl⟩, fun _ hg => .inl hg⟩
end

section
variable (i at_ n : Int) (c : UInt8) (text : ByteArray) (A : Option Addr) (cap l : Nat) {w : World} {p gs : Nat} {vw : Value} {S S' : Sp} {x : Int} (h : HasD w p gs vw S) (hc : S.count ≤ 1048576)

end

end Go.Proofs.YtafbeepacncooaaDoor
