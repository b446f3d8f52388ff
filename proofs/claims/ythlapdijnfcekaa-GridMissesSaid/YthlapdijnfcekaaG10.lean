/-
  The disk's calls, as the laws call them: a disk of the law's own, all older memory as it was.
-/
import Derived.Test.YthlapdijnfcekaaG09
import Derived.Test.YthlapdijnfcekaaG05
namespace Go.Proofs.Ythlapdijnfcekaa
open Go.RowKit

/-- a disk S at p, all of its blocks from B on; below B the world is as w0 -/
def Dk (B : Nat) (w0 w : World) (p gs : Nat) (S : Sp) : Prop := ∃ vw, HasD w p gs vw S ∧ (∀ b ∈ fpD p gs vw, B ≤ b) ∧ Below B w0 w ∧ B ≤ w.heap.size
/-- an answer, and the disk -/
def DP (B : Nat) (w0 : World) (p gs : Nat) (S' : Sp) (x : Int) (e : Ending) (w' : World) : Prop := e = .returned (.int .i64 x) ∧ Dk B w0 w' p gs S'
section
variable {B : Nat} {w0 w w' : World} {p gs : Nat} {S S' : Sp}
theorem Dk.below (h : Dk B w0 w p gs S) : Below B w0 w := by obtain ⟨_, _, _, h, _⟩ := h; exact h
theorem Dk.wf (h : Dk B w0 w p gs S) : S.WF := by obtain ⟨_, h, _⟩ := h; exact h.wf
theorem Dk.fr (h : Dk B w0 w p gs S) (hf : Fr w w' []) : Dk B w0 w' p gs S := by
  obtain ⟨vw, h1, h2, h3, h4⟩ := h
  exact ⟨vw, h1.fr hf (by simp), h2, h3.trans (hf.below (by simp) h4), Nat.le_trans h4 hf.size⟩
theorem Dk.alloc (h : Dk B w0 w p gs S) (o : Obj) : Dk B w0 (w.alloc o) p gs S := h.fr ((Fr.refl w []).alloc o)
theorem Dk.drewN (h : Dk B w0 w p gs S) (n : Nat) : Dk B w0 (w.drewN n) p gs S := h.fr ⟨rfl, rfl, rfl, Nat.le_refl _, fun _ _ _ => rfl⟩
theorem Dk.drew (h : Dk B w0 w p gs S) : Dk B w0 w.drew p gs S := h.drewN 1
theorem Dk.next {vw vw' : Value} (h1 : HasD w p gs vw S) (h2 : ∀ b ∈ fpD p gs vw, B ≤ b) (h3 : Below B w0 w) (h4 : B ≤ w.heap.size) (k1 : HasD w' p gs vw' S') (k2 : Fr w w' (fpD p gs vw)) (k3 : ∀ g, vw'.ownBlock = some g → vw.ownBlock = some g ∨ w.heap.size ≤ g) :
    Dk B w0 w' p gs S' := by
  refine ⟨vw', k1, ?_, h3.trans (k2.below h2 h4), Nat.le_trans h4 k2.size⟩
  intro b hb
  simp only [fpD, List.mem_cons, Option.mem_toList] at hb
  rcases hb with rfl | rfl | hb
  · exact h2 _ (by simp [fpD])
  · exact h2 _ (by simp [fpD])
  · rcases k3 b hb with h | h
    · exact h2 b (by simp [fpD, h])
    · omega
theorem Dk.call {P : Program} {f : FuncId} {args : Array Value} {r : Sp × Int} {x : Int} (h : Dk B w0 w p gs S) (hr : r = (S', x)) (H : ∀ vw, HasD w p gs vw S → Calls P f args w (DE w p gs vw r)) : Calls P f args w (DP B w0 p gs S' x) := by
  subst hr
  obtain ⟨vw, h1, h2, h3, h4⟩ := h
  refine (H vw h1).mono ?_
  rintro e w' ⟨vw', rfl, k1, k2, k3⟩
  exact ⟨rfl, Dk.next h1 h2 h3 h4 k1 k2 k3⟩
theorem Dk.call1 {P : Program} {f : FuncId} {args : Array Value} {r : Sp × Int} {x : Int} (h : Dk B w0 w p gs S) (hr : r = (S', x)) (H : ∀ vw, HasD w p gs vw S → Calls P f args w fun e w' => e = .returned (.int .i64 r.2) ∧ HasD w' p gs vw r.1 ∧ Fr w w' [p]) :
    Calls P f args w (DP B w0 p gs S' x) :=
  h.call hr fun vw hv => (H vw hv).mono fun e w' ⟨k1, k2, k3⟩ => ⟨vw, k1, k2, k3.mono (by simp [fpD]), fun _ hg => .inl hg⟩
theorem Dk.ask {P : Program} {f : FuncId} {args : Array Value} {x : Ending} (h : Dk B w0 w p gs S) (H : ∀ vw, HasD w p gs vw S → Calls P f args w fun e w' => e = x ∧ w = w') : Calls P f args w fun e w' => e = x ∧ w' = w := by
  obtain ⟨vw, h1, _⟩ := h
  exact (H vw h1).mono fun e w' ⟨k1, k2⟩ => ⟨k1, k2.symm⟩
theorem dk_write (h : Dk B w0 w p gs S) (hc : S.count ≤ 1048576) (i : Int) (s : ByteArray) {x : Int} (hr : S.write i (sb s) = (S', x)) : Calls Try.prog 43 #[dptr p, .int .i64 i, .string s] w (DP B w0 p gs S' x) :=
  h.call hr fun vw hv => write_any p gs vw S i s w hv hc
theorem dk_flush (h : Dk B w0 w p gs S) (hc : S.count ≤ 1048576) {x : Int} (hr : S.flush = (S', x)) : Calls Try.prog 29 #[dptr p] w (DP B w0 p gs S' x) :=
  h.call hr fun vw hv => flush_any p gs vw S w hv hc
theorem dk_fuse (h : Dk B w0 w p gs S) (n : Int) (hn : n ≤ 9223372036854775807) {x : Int} (hr : S.fuse n = (S', x)) : Calls Try.prog 10 #[dptr p, .int .i64 n] w (DP B w0 p gs S' x) :=
  h.call1 hr fun vw hv => fuse_any p gs vw S n w hv hn
theorem dk_start (h : Dk B w0 w p gs S) (hc : S.count ≤ 1048576) (picks : List Int) (A : Option Addr) (l c D : Nat) (hl : l = picks.length) (hrd : Rd w D A (ints picks)) (hp : ∀ x ∈ picks, x ≤ 9223372036854775807) (hpn : picks.length ≤ 9223372036854775807)
    (hA : picks ≠ [] → ∀ g o, A = some ⟨g, o, none⟩ → g ≠ gs) {x : Int} (hr : S.start picks = (S', x)) : Calls Try.prog 12 #[dptr p, .slice A l c] w (DP B w0 p gs S' x) := by
  subst hl
  exact h.call hr fun vw hv => start_any p gs vw S picks A c D w hv hc hrd hp hpn hA
/-- Start, its picks a row that was just made -/
theorem dk_start_new (h : Dk B w0 w p gs S) (hc : S.count ≤ 1048576) (picks : List Int) (hp : ∀ x ∈ picks, x ≤ 9223372036854775807) (hpn : picks.length ≤ 9223372036854775807) {x : Int} (hr : S.start picks = (S', x)) (l : Nat) (hl : l = picks.length) :
    Calls Try.prog 12 #[dptr p, .slice (some ⟨w.heap.size, 0, none⟩) l l] (w.alloc (.cells (ints picks).toArray 3)) (DP B w0 p gs S' x) := by
  have hlt : gs < w.heap.size := by obtain ⟨vw, hv, _⟩ := h; exact hv.secs.lt
  refine dk_start (h.alloc _) hc picks _ l l (w.heap.size + 1) hl ?_ hp hpn ?_ hr
  · have := Row.new w 3 (ints picks).toArray
    exact this.rd (by omega)
  · intro _ g o e
    cases e
    omega
theorem dk_rot (h : Dk B w0 w p gs S) (i a m : Int) {x : Int} (hr : S.rot i a m = (S', x)) : Calls Try.prog 15 #[dptr p, .int .i64 i, .int .i64 a, .int .i64 m] w (DP B w0 p gs S' x) :=
  h.call hr fun vw hv => rot_any p gs vw S i a m w hv
theorem dk_on (h : Dk B w0 w p gs S) {b : Bool} (hr : S.on = b) : Calls Try.prog 11 #[dptr p] w fun e w' => e = .returned (.bool b) ∧ w' = w := by
  subst hr
  exact h.ask fun vw hv => on_any p gs vw S w hv
theorem dk_steps (h : Dk B w0 w p gs S) : Calls Try.prog 22 #[dptr p] w fun e w' => e = .returned (.int .i64 (S.count : Int)) ∧ w' = w := h.ask fun vw hv => steps_any p gs vw S w hv
/-- a text and a number -/
def DR (B : Nat) (w0 : World) (p gs : Nat) (S : Sp) (l : List UInt8) (x : Int) (e : Ending) (w' : World) : Prop := e = .returned (.tuple #[.string ⟨l.toArray⟩, .int .i64 x]) ∧ Dk B w0 w' p gs S
theorem dk_read (h : Dk B w0 w p gs S) (hc : S.count ≤ 1048576) (i : Int) {l : List UInt8} {x : Int} (hr : S.read i = (l, x)) : Calls Try.prog 38 #[dptr p, .int .i64 i] w (DR B w0 p gs S l x) := by
  obtain ⟨vw, h1, h2⟩ := h
  refine (read_any p gs vw S i w h1 hc).mono ?_
  rw [hr]
  rintro e w' ⟨rfl, n, rfl⟩
  exact ⟨rfl, Dk.drewN ⟨vw, h1, h2⟩ n⟩
/-- a new disk -/
def DN (w : World) (n : Nat) (e : Ending) (w' : World) : Prop := ∃ p gs, e = .returned (.tuple #[dptr p, .int .i64 0]) ∧ Dk w.heap.size w w' p gs (Sp.mk0 n)
theorem dk_new (n : Nat) (w : World) (h1 : 1 ≤ n) (h2 : n ≤ 64) : Calls Try.prog 7 #[.int .i64 (n : Int)] w (DN w n) := by
  refine (new_yes n w h1 h2).mono ?_
  rintro e w' ⟨p, gs, rfl, k1, k2, k3, k4⟩
  refine ⟨p, gs, rfl, _, k1, ?_, k2.below (by simp) (Nat.le_refl _), k2.size⟩
  intro b hb
  simp [fpD, Value.ownBlock] at hb
  rcases hb with rfl | rfl <;> assumption
end
end Go.Proofs.Ythlapdijnfcekaa
/-
  The walk of awake: the chapter's last example.
-/
namespace Go.Proofs.Ythlapdijnfcekaa
open Go.RowKit

theorem sb_str (l : List UInt8) : sb ⟨l.toArray⟩ = l := by simp [sb]
theorem Sp.is_zero (S : Sp) (h : 0 < S.secs.length) : S.is 0 := ⟨by omega, by omega⟩
def aw1 : Sp := ⟨[sec0, sec0], [⟨0, b384 7⟩], true, 0, 1⟩
def aw2 : Sp := ⟨[sec0, sec0], [⟨0, b384 7⟩], false, 0, 1⟩
def aw3 : Sp := ⟨[takeS3 sec0 (b384 7) 10, sec0], [], true, 0, 1⟩
theorem aw_write : (Sp.mk0 2).write 0 (sb ⟨(b384 7).toArray⟩) = (aw1, 0) := by
  rw [sb_str]
  exact Sp.write_ok (S := Sp.mk0 2) (k := 0) (s := b384 7) (by show 0 < (List.replicate 2 sec0).length; simp) (b384_len 7) rfl (by show (0 : Nat) ≠ 1; omega)
theorem aw_cut : aw1.cut = (aw2, 0) := rfl
theorem aw_pick : pickOf [32] 0 = 10 := by decide
theorem aw_start : aw2.start [32] = (aw3, 0) := by
  show (if (false : Bool) = true then (aw2, (10 : Int)) else ({ aw2 with secs := sett (pickOf [32]) aw2.way aw2.secs, way := [], on := true }, 0)) = _
  rw [if_neg (by simp)]
  have e : sett (pickOf [32]) aw2.way aw2.secs = [takeS3 sec0 (b384 7) 10, sec0] := by
    show [takeS3 sec0 (b384 7) (pickOf [32] 0), sec0] = _
    rw [aw_pick]
  rw [e]
  rfl
theorem aw_read : aw3.read 0 = (mixS (b384 7) (b384 0) 10, 0) := by
  unfold Sp.read
  rw [if_neg (fun h => h (Sp.is_zero aw3 (by simp [aw3]))), if_neg (by simp [aw3])]
  rfl
theorem aw_marked : (decide (aw3.is 0) && (aw3.secs.getD (0 : Int).toNat ⟨[], false⟩).marked) = true := by
  rw [decide_eq_true (Sp.is_zero aw3 (by simp [aw3]))]
  rfl
/-- true, and nothing that was there has turned -/
def YF (w : World) (e : Ending) (w' : World) : Prop := e = .returned (.bool true) ∧ Fr w w' []
theorem Dk.frame {w w' : World} {p gs : Nat} {S : Sp} (h : Dk w.heap.size w w' p gs S) : Fr w w' [] := by
  have hb := h.below
  exact ⟨hb.os, hb.tape, hb.output, hb.size, fun k hk _ => hb.block k hk⟩
end Go.Proofs.Ythlapdijnfcekaa
/-
  The walk of DiskTears.
-/
namespace Go.Proofs.Ythlapdijnfcekaa
open Go.RowKit

/-- a sector that was wholly written -/
def full (l : List UInt8) : Sec := ⟨l, false⟩
theorem takeS_full (k l : List UInt8) (hk : k.length = 384) (hl : l.length = 384) : takeS3 (full k) l 384 = full l := by
  unfold takeS3 full
  rw [List.take_of_length_le (Nat.le_of_eq hl), List.drop_eq_nil_of_le (Nat.le_of_eq hk)]
  simp
theorem Sp.flush_ok {S : Sp} (ho : S.on = true) (hl : S.left ≠ 1) : S.flush = ({ S with left := S.left - 1, count := S.count + 1, secs := sett (fun _ => 384) S.way S.secs, way := [] }, 0) := by
  unfold Sp.flush
  rw [Sp.goes_more ho hl, if_pos rfl]
theorem Sp.start_ok {S : Sp} (ho : S.on = false) (picks : List Int) : S.start picks = ({ S with secs := sett (pickOf picks) S.way S.secs, way := [], on := true }, 0) := by
  unfold Sp.start
  rw [if_neg (by simp [ho])]
theorem Sp.cut_ok {S : Sp} (ho : S.on = true) : S.cut = ({ S with on := false, left := 0 }, 0) := by
  unfold Sp.cut
  rw [if_neg (by simp [ho])]
theorem Sp.write_str {S S' : Sp} {k : Nat} {l : List UInt8} (hl : l.length = 384) (hk : k < S.secs.length) (ho : S.on = true) (hl1 : S.left ≠ 1) (h : { S with left := S.left - 1, count := S.count + 1, way := S.way ++ [⟨k, l⟩] } = S') :
    S.write k (sb ⟨l.toArray⟩) = (S', 0) := by
  rw [sb_str, Sp.write_ok hk hl ho hl1, h]
def te0 : Sp := ⟨[sec0, sec0, sec0], [], true, 0, 0⟩
def te1 (a : List UInt8) : Sp := ⟨[sec0, sec0, sec0], [⟨1, a⟩], true, 0, 1⟩
def te2 (a : List UInt8) : Sp := ⟨[sec0, full a, sec0], [], true, 0, 2⟩
def te3 (a c : List UInt8) : Sp := ⟨[sec0, full a, sec0], [⟨2, c⟩], true, 0, 3⟩
def te4 (a c : List UInt8) : Sp := ⟨[sec0, full a, sec0], [⟨2, c⟩, ⟨1, c⟩], true, 0, 4⟩
def te5 (a c : List UInt8) : Sp := ⟨[sec0, full a, sec0], [⟨2, c⟩, ⟨1, c⟩], false, 0, 4⟩
def te6 (a c : List UInt8) (m n : Nat) : Sp := ⟨[sec0, takeS3 (full a) c n, takeS3 sec0 c m], [], true, 0, 4⟩
theorem te_0 : Sp.mk0 3 = te0 := rfl
section
variable {a c : List UInt8} (ha : a.length = 384) (hc : c.length = 384)
include ha in
theorem te_1 : te0.write 1 (sb ⟨a.toArray⟩) = (te1 a, 0) := Sp.write_str (S := te0) (k := 1) ha (by simp [te0]) rfl (by simp [te0]) rfl
include ha in
theorem te_2 : (te1 a).flush = (te2 a, 0) := by
  rw [Sp.flush_ok rfl (by simp [te1])]
  have e : sett (fun _ => 384) (te1 a).way (te1 a).secs = [sec0, takeS3 (full (b384 0)) a 384, sec0] := rfl
  rw [e, takeS_full _ _ (b384_len 0) ha]
  rfl
include hc in
theorem te_3 : (te2 a).write 2 (sb ⟨c.toArray⟩) = (te3 a c, 0) := Sp.write_str (S := te2 a) (k := 2) hc (by simp [te2]) rfl (by simp [te2]) rfl
include hc in
theorem te_4 : (te3 a c).write 1 (sb ⟨c.toArray⟩) = (te4 a c, 0) := Sp.write_str (S := te3 a c) (k := 1) hc (by simp [te3]) rfl (by simp [te3]) rfl
theorem te_5 : (te4 a c).cut = (te5 a c, 0) := Sp.cut_ok rfl
theorem te_6 (o p : Int) : (te5 a c).start [o, p] = (te6 a c (keptS o) (keptS p), 0) := Sp.start_ok rfl _
theorem te_read (m n : Nat) : (te6 a c m n).read 1 = (mixS c a n, 0) := by
  unfold Sp.read
  rw [if_neg (fun h => h ⟨by omega, by simp [te6]⟩), if_neg (by simp [te6])]
  rfl
theorem te_marked (m n : Nat) : (decide ((te6 a c m n).is 1) && ((te6 a c m n).secs.getD (1 : Int).toNat ⟨[], false⟩).marked) = decide (0 < n ∧ n < 384) := by
  rw [decide_eq_true (show (te6 a c m n).is 1 from ⟨by omega, by simp [te6]⟩)]
  show (true && (takeS3 (full a) c n).marked) = _
  unfold takeS3 full
  by_cases h : n = 0
  · simp [h]
  · simp [h]
    omega
end

end Go.Proofs.Ythlapdijnfcekaa
/-
  The walk of does, with its frame.
-/
namespace Go.Proofs.Ythlapdijnfcekaa
open Go.RowKit

/-- what a call leaves of the disk, its frame with it -/
def DX (w : World) (p gs : Nat) (vw : Value) (S' : Sp) (w' : World) : Prop :=
  ∃ vw', HasD w' p gs vw' S' ∧ Fr w w' (fpD p gs vw) ∧ (∀ g, vw'.ownBlock = some g → vw.ownBlock = some g ∨ w.heap.size ≤ g)
def DY (w : World) (p gs : Nat) (vw : Value) (S' : Sp) (x : Int) (e : Ending) (w' : World) : Prop := e = .returned (.int .i64 x) ∧ DX w p gs vw S' w'
section
variable {w w1 w' : World} {p gs : Nat} {vw : Value} {S S' : Sp}
theorem DX.of (hf : Fr w w1 []) (h : DX w1 p gs vw S' w') : DX w p gs vw S' w' := by
  obtain ⟨vw', k1, k2, k3⟩ := h
  have hs := hf.size
  exact ⟨vw', k1, (hf.mono (fq := fpD p gs vw) (by simp)).trans k2 (fun b hb _ => hb), fun g hg => (k3 g hg).imp id (fun h => Nat.le_trans hs h)⟩
theorem DX.same (h : HasD w p gs vw S) : DX w p gs vw S w := ⟨vw, h, Fr.refl _ _, fun _ hg => .inl hg⟩
theorem dy {P : Program} {f : FuncId} {args : Array Value} {r : Sp × Int} {x : Int} (hr : r = (S', x)) (H : Calls P f args w (DE w p gs vw r)) : Calls P f args w (DY w p gs vw S' x) := by
  subst hr
  exact H.mono fun e w' ⟨vw', k0, k1, k2, k3⟩ => ⟨k0, vw', k1, k2, k3⟩
theorem dy_write (h : HasD w p gs vw S) (hc : S.count ≤ 1048576) (i : Int) (s : ByteArray) {x : Int} (hr : S.write i (sb s) = (S', x)) : Calls Try.prog 43 #[dptr p, .int .i64 i, .string s] w (DY w p gs vw S' x) :=
  dy hr (write_any p gs vw S i s w h hc)
theorem dy_flush (h : HasD w p gs vw S) (hc : S.count ≤ 1048576) {x : Int} (hr : S.flush = (S', x)) : Calls Try.prog 29 #[dptr p] w (DY w p gs vw S' x) :=
  dy hr (flush_any p gs vw S w h hc)
theorem dy_fuse (h : HasD w p gs vw S) (n : Int) (hn : n ≤ 9223372036854775807) {x : Int} (hr : S.fuse n = (S', x)) : Calls Try.prog 10 #[dptr p, .int .i64 n] w (DY w p gs vw S' x) :=
  dy hr ((fuse_any p gs vw S n w h hn).mono fun _ _ ⟨k1, k2, k3⟩ => ⟨vw, k1, k2, k3.mono (by simp [fpD]), fun _ hg => .inl hg⟩)
theorem dy_start (h : HasD w p gs vw S) (hc : S.count ≤ 1048576) (picks : List Int) (A : Option Addr) (l c D : Nat) (hl : l = picks.length) (hrd : Rd w D A (ints picks)) (hp : ∀ x ∈ picks, x ≤ 9223372036854775807) (hpn : picks.length ≤ 9223372036854775807)
    (hA : picks ≠ [] → ∀ g o, A = some ⟨g, o, none⟩ → g ≠ gs) {x : Int} (hr : S.start picks = (S', x)) : Calls Try.prog 12 #[dptr p, .slice A l c] w (DY w p gs vw S' x) := by
  subst hl
  exact dy hr (start_any p gs vw S picks A c D w h hc hrd hp hpn hA)
theorem dy_rot (h : HasD w p gs vw S) (hc : S.count ≤ 1048576) (i a m : Int) {x : Int} (hr : S.rot i a m = (S', x)) : Calls Try.prog 15 #[dptr p, .int .i64 i, .int .i64 a, .int .i64 m] w (DY w p gs vw S' x) :=
  dy hr (have _ := hc; rot_any p gs vw S i a m w h)
theorem dy_read (h : HasD w p gs vw S) (hc : S.count ≤ 1048576) (i : Int) {l : List UInt8} {x : Int} (hr : S.read i = (l, x)) : Calls Try.prog 38 #[dptr p, .int .i64 i] w fun e w' => e = .returned (.tuple #[.string ⟨l.toArray⟩, .int .i64 x]) ∧ DX w p gs vw S w' := by
  refine (read_any p gs vw S i w h hc).mono ?_
  rw [hr]
  rintro e w' ⟨rfl, n, rfl⟩
  exact ⟨rfl, vw, h.fr (fp := []) ⟨rfl, rfl, rfl, Nat.le_refl _, fun _ _ _ => rfl⟩ (by simp), ⟨rfl, rfl, rfl, Nat.le_refl _, fun _ _ _ => rfl⟩, fun _ hg => .inl hg⟩
end
end Go.Proofs.Ythlapdijnfcekaa
/-
  Texts on a disk, in plain words: what a sector has, laying, what the power leaves, what rots.
-/
namespace Go.Proofs.Ythlapdijnfcekaa
open Go.RowKit
set_option maxRecDepth 10000

theorem next_own (l : List UInt8) (h : l.length = 384) : l.getD 383 0 ≠ nextS l := by
  unfold nextS
  rw [if_neg (by omega), h]
  intro c
  have h1 := congrArg UInt8.toNat c
  rw [UInt8.toNat_add] at h1
  have h2 := UInt8.toNat_lt (l.getD 383 0)
  have h3 : (l.getD (384 - 1) 0) = l.getD 383 0 := rfl
  rw [h3] at h1
  have h4 : (1 : UInt8).toNat = 1 := rfl
  omega
def secJ (S : Sp) (k : Nat) : Sec := S.secs.getD k ⟨[], false⟩
/-- every sector has its size -/
structure LnJ (S : Sp) : Prop where
  len : ∀ s ∈ S.secs, s.lasts.length = 384
/-- what a sector has: a text, or nothing that can be read -/
def KcJ : Option (List UInt8) → Sec → Prop
  | some t, s => (∃ g, s.lasts = layS g t) ∧ s.marked = false ∧ t.length ≤ 376
  | none, s => s.marked = true ∧ openS s.lasts = ([], false)
theorem secJ_mem {S : Sp} {k : Nat} (hk : k < S.secs.length) : secJ S k = S.secs[k] := by
  rw [secJ, List.getD_eq_getElem?_getD, List.getElem?_eq_getElem hk]
  rfl
theorem secJ_len {S : Sp} (h : LnJ S) {k : Nat} (hk : k < S.secs.length) : (secJ S k).lasts.length = 384 := by
  rw [secJ_mem hk]
  exact h.len _ (List.getElem_mem hk)
theorem secJ_mod {S S' : Sp} {k : Nat} {f : Sec → Sec} (hk : k < S.secs.length) (h : S'.secs = S.secs.modify k f) (i : Nat) : secJ S' i = if i = k then f (secJ S i) else secJ S i := by
  unfold secJ
  rw [h, List.getD_eq_getElem?_getD, List.getD_eq_getElem?_getD, List.getElem?_modify]
  by_cases e : i = k
  · subst e
    simp [hk]
  · have e' : ¬ k = i := fun h => e h.symm
    simp [e, e']
/-- the power is on, nothing is under way -/
structure ClJ (S : Sp) : Prop where
  on : S.on = true
  way : S.way = []
  ln : LnJ S
theorem readJ {S : Sp} (h : ClJ S) {k : Nat} (hk : k < S.secs.length) : S.read (k : Int) = ((secJ S k).lasts, 0) := by
  unfold Sp.read
  rw [if_neg (by simp only [Decidable.not_not]; exact ⟨by omega, by omega⟩), if_neg (by rw [h.on]; simp), h.way]
  rfl
/-- a text is laid -/
def layJ (S : Sp) (i : Int) (f : List UInt8 → List UInt8) : Sp × Int :=
  if (S.read i).2 ≠ 0 then (S, (S.read i).2) else if (S.write i (f (S.read i).1)).2 ≠ 0 then S.write i (f (S.read i).1) else (S.write i (f (S.read i).1)).1.flush
/-- the first c bytes of a write over a sector -/
theorem modJ_len {secs : List Sec} (h : ∀ s ∈ secs, s.lasts.length = 384) (k : Nat) (f : Sec → Sec) (hf : ∀ s : Sec, s.lasts.length = 384 → (f s).lasts.length = 384) : ∀ s ∈ secs.modify k f, s.lasts.length = 384 := by
  intro s hs
  obtain ⟨j, hj, hje⟩ := List.getElem_of_mem hs
  rw [List.getElem_modify] at hje
  split at hje
  · subst hje
    exact hf _ (h _ (List.getElem_mem (by simpa using hj)))
  · subst hje
    exact h _ (List.getElem_mem (by simpa using hj))
theorem takeJ_len {b : List UInt8} (hb : b.length = 384) (c : Nat) (s : Sec) (h : s.lasts.length = 384) : (takeS3 s b c).lasts.length = 384 := by
  unfold takeS3
  simp only [List.length_append, List.length_take, List.length_drop, hb, h]
  omega
/-- of a write that lays a text over a sector, whatever lasts -/
theorem take_kc {s : Sec} {o : Option (List UInt8)} {t : List UInt8} (hl : s.lasts.length = 384) (ht : t.length ≤ 376) (ho : KcJ o s) (c : Nat) (hc : c ≤ 384) :
    KcJ o (takeS3 s (layS (nextS s.lasts) t) c) ∨ KcJ (some t) (takeS3 s (layS (nextS s.lasts) t) c) ∨ KcJ none (takeS3 s (layS (nextS s.lasts) t) c) := by
  by_cases h0 : c = 0
  · subst h0
    left
    have e : takeS3 s (layS (nextS s.lasts) t) 0 = s := by
      unfold takeS3
      simp
    rw [e]
    exact ho
  · by_cases h1 : c = 384
    · subst h1
      right; left
      have e : takeS3 s (layS (nextS s.lasts) t) 384 = ⟨layS (nextS s.lasts) t, false⟩ := by
        unfold takeS3
        rw [List.take_of_length_le (by rw [layS_len _ _ ht]; exact Nat.le_refl _), List.drop_eq_nil_of_le (by omega)]
        simp
      rw [e]
      exact ⟨⟨_, rfl⟩, rfl, ht⟩
    · right; right
      refine ⟨?_, tears_not _ t s.lasts c ht (next_own _ hl) (by omega) (by omega)⟩
      unfold takeS3
      simp [h0]
      omega
theorem take_all_kc {s : Sec} {t : List UInt8} (hl : s.lasts.length = 384) (ht : t.length ≤ 376) : KcJ (some t) (takeS3 s (layS (nextS s.lasts) t) 384) := by
  have e : takeS3 s (layS (nextS s.lasts) t) 384 = ⟨layS (nextS s.lasts) t, false⟩ := by
    unfold takeS3
    rw [List.take_of_length_le (by rw [layS_len _ _ ht]; exact Nat.le_refl _), List.drop_eq_nil_of_le (by omega)]
    simp
  rw [e]
  exact ⟨⟨_, rfl⟩, rfl, ht⟩
/-- what the sectors from 4 on have (those of a journal) -/
def KsJ (S : Sp) (K : Nat → Option (List UInt8)) : Prop := ∀ i, 4 ≤ i → i < 20 → KcJ (K i) (secJ S i)
def updJ (K : Nat → Option (List UInt8)) (i : Nat) (o : Option (List UInt8)) : Nat → Option (List UInt8) := fun j => if j = i then o else K j
theorem updJ_same (K : Nat → Option (List UInt8)) (i : Nat) : updJ K i (K i) = K := by
  funext j
  unfold updJ
  split
  · rename_i h; rw [h]
  · rfl
/-- a disk of the journal's at rest -/
structure TdJ (S : Sp) (K : Nat → Option (List UInt8)) : Prop where
  cl : ClJ S
  n : 20 ≤ S.secs.length
  ks : KsJ S K
/-- the power is gone; what it may leave: K1, or one sector more -/
structure OffJ (S : Sp) (K : Nat → Option (List UInt8)) (pend : Option (Nat × List UInt8)) : Prop where
  off : S.on = false
  ln : LnJ S
  n : 20 ≤ S.secs.length
  ks : KsJ S K
  way : match pend with
    | none => S.way = []
    | some (i, t) => 4 ≤ i ∧ i < 20 ∧ t.length ≤ 376 ∧ S.way = [⟨i, layS (nextS (secJ S i).lasts) t⟩]
theorem lay_steps {S : Sp} {K : Nat → Option (List UInt8)} (h : TdJ S K) {i : Nat} (h4 : 4 ≤ i) (h20 : i < 20) (f : List UInt8 → List UInt8) {t : List UInt8} (ht : t.length ≤ 376) (hf : ∀ old, old.length = 384 → f old = layS (nextS old) t) :
    (∃ S', layJ S i f = (S', 0) ∧ TdJ S' (updJ K i (some t)) ∧ S'.count = S.count + 2 ∧ S'.left = S.left - 1 - 1 ∧ (S.left = 0 ∨ 2 < S.left)) ∨
    (∃ S', layJ S i f = (S', 6) ∧ OffJ S' K none ∧ S'.count = S.count + 1 ∧ S.left = 1) ∨
    (∃ S', layJ S i f = (S', 6) ∧ OffJ S' K (some (i, t)) ∧ S'.count = S.count + 2 ∧ S.left = 2) := by
  have hn := h.n
  have hil : i < S.secs.length := by omega
  have hr := readJ h.cl hil
  have hlen := secJ_len h.cl.ln hil
  have hfl := hf _ hlen
  have hll : (layS (nextS (secJ S i).lasts) t).length = 384 := layS_len _ _ ht
  have e0 : layJ S i f = if (S.write i (layS (nextS (secJ S i).lasts) t)).2 ≠ 0 then S.write i (layS (nextS (secJ S i).lasts) t) else (S.write i (layS (nextS (secJ S i).lasts) t)).1.flush := by
    unfold layJ
    rw [hr, if_neg (by simp)]
    simp only [hfl]
  rw [e0]
  generalize hl : layS (nextS (secJ S i).lasts) t = l at *
  by_cases h1 : S.left = 1
  · right; left
    have hw : S.write i l = ({ S with on := false, left := 0, count := S.count + 1 }, 6) := by
      unfold Sp.write
      rw [if_neg (by rintro (q | q); exact q ⟨by omega, by omega⟩; exact q hll), Sp.goes_one h.cl.on h1, if_neg (by simp)]
    rw [hw, if_pos (by simp)]
    exact ⟨_, rfl, ⟨rfl, ⟨h.cl.ln.len⟩, hn, h.ks, h.cl.way⟩, rfl, h1⟩
  · have hw : S.write i l = ({ S with left := S.left - 1, count := S.count + 1, way := S.way ++ [⟨i, l⟩] }, 0) := Sp.write_ok hil hll h.cl.on h1
    rw [hw, if_neg (by simp)]
    simp only
    rw [h.cl.way, List.nil_append]
    by_cases h2 : S.left = 2
    · right; right
      refine ⟨{ S with on := false, left := 0, count := S.count + 2, way := [⟨i, l⟩] }, ?_, ⟨rfl, ⟨h.cl.ln.len⟩, hn, h.ks, h4, h20, ht, ?_⟩, rfl, h2⟩
      · unfold Sp.flush
        rw [Sp.goes_one (S := { S with left := S.left - 1, count := S.count + 1, way := [⟨i, l⟩] }) h.cl.on (by show S.left - 1 = 1; omega), if_neg (by simp)]
      · show [(⟨i, l⟩ : Wr)] = [⟨i, layS (nextS (secJ S i).lasts) t⟩]
        rw [hl]
    · left
      refine ⟨{ S with left := S.left - 1 - 1, count := S.count + 2, way := [], secs := sett (fun _ => 384) [⟨i, l⟩] S.secs }, ?_, ⟨⟨h.cl.on, rfl, ⟨?_⟩⟩, ?_, ?_⟩, rfl, rfl, by omega⟩
      · exact Sp.flush_ok (S := { S with left := S.left - 1, count := S.count + 1, way := [⟨i, l⟩] }) h.cl.on (by show S.left - 1 ≠ 1; omega)
      · exact modJ_len h.cl.ln.len i _ fun s hs => takeJ_len hll 384 s hs
      · show 20 ≤ (sett (fun _ => 384) [⟨i, l⟩] S.secs).length
        rw [sett_length]
        exact hn
      · intro j j4 j20
        have hs : secJ { S with left := S.left - 1 - 1, count := S.count + 2, way := [], secs := sett (fun _ => 384) [⟨i, l⟩] S.secs } j = if j = i then takeS3 (secJ S j) l 384 else secJ S j := secJ_mod (S := S) (f := fun s => takeS3 s l 384) hil rfl j
        rw [hs]
        unfold updJ
        by_cases e : j = i
        · subst e
          rw [if_pos rfl, if_pos rfl, ← hl]
          exact take_all_kc hlen ht
        · rw [if_neg e, if_neg e]
          exact h.ks j j4 j20
/-- what is there when the power is back -/
theorem start_steps {S : Sp} {K : Nat → Option (List UInt8)} {pend : Option (Nat × List UInt8)} (h : OffJ S K pend) (picks : List Int) :
    ∃ S' K', S.start picks = (S', 0) ∧ TdJ S' K' ∧ S'.count = S.count ∧ S'.left = S.left ∧
      match pend with
      | none => K' = K
      | some (i, t) => K' = K ∨ K' = updJ K i (some t) ∨ K' = updJ K i none := by
  rw [Sp.start_ok h.off]
  obtain ⟨ho, hl, hn, hks, hw⟩ := h
  cases pend with
  | none =>
    simp only at hw
    refine ⟨_, K, rfl, ⟨⟨rfl, rfl, ?_⟩, ?_, ?_⟩, rfl, rfl, rfl⟩
    · rw [hw]; exact ⟨hl.len⟩
    · rw [hw]; exact hn
    · intro j j4 j20
      rw [hw]
      exact hks j j4 j20
  | some it =>
    obtain ⟨i, t⟩ := it
    obtain ⟨i4, i20, ht, hw⟩ := hw
    have hil : i < S.secs.length := by omega
    have hlen := secJ_len hl hil
    have hll : (layS (nextS (secJ S i).lasts) t).length = 384 := layS_len _ _ ht
    have hkc := take_kc hlen ht (hks i i4 i20) (pickOf picks 0) (pickOf_le _ _)
    have hs : ∀ j, secJ { S with secs := sett (pickOf picks) S.way S.secs, way := [], on := true } j = if j = i then takeS3 (secJ S j) (layS (nextS (secJ S i).lasts) t) (pickOf picks 0) else secJ S j := fun j => by
      refine secJ_mod (S := S) (f := fun s => takeS3 s (layS (nextS (secJ S i).lasts) t) (pickOf picks 0)) hil ?_ j
      show sett (pickOf picks) S.way S.secs = _
      rw [hw]
      rfl
    have hT : ∀ o, KcJ o (takeS3 (secJ S i) (layS (nextS (secJ S i).lasts) t) (pickOf picks 0)) → TdJ { S with secs := sett (pickOf picks) S.way S.secs, way := [], on := true } (updJ K i o) := fun o hk => by
      refine ⟨⟨rfl, rfl, ⟨?_⟩⟩, ?_, ?_⟩
      · show ∀ s ∈ sett (pickOf picks) S.way S.secs, _
        rw [hw]
        exact modJ_len hl.len i _ fun s q => takeJ_len hll _ s q
      · show 20 ≤ (sett (pickOf picks) S.way S.secs).length
        rw [sett_length]
        exact hn
      · intro j j4 j20
        rw [hs j]
        unfold updJ
        by_cases e : j = i
        · subst e
          rw [if_pos rfl, if_pos rfl]
          exact hk
        · rw [if_neg e, if_neg e]
          exact hks j j4 j20
    rcases hkc with hk | hk | hk
    · refine ⟨_, K, rfl, ?_, rfl, rfl, .inl rfl⟩
      have := hT _ hk
      rw [updJ_same] at this
      exact this
    · exact ⟨_, _, rfl, hT _ hk, rfl, rfl, .inr (.inl rfl)⟩
    · exact ⟨_, _, rfl, hT _ hk, rfl, rfl, .inr (.inr rfl)⟩
end Go.Proofs.Ythlapdijnfcekaa
/-
  Texts on a disk, in plain words: what rots; what entries and stubs are there.
-/
namespace Go.Proofs.Ythlapdijnfcekaa
open Go.RowKit
set_option maxRecDepth 10000

theorem xorJ_ne (x : UInt8) (m : Nat) (h1 : 1 ≤ m) (h2 : m ≤ 255) : x ^^^ UInt8.ofNat m ≠ x := by
  intro e
  have h3 : UInt8.ofNat m = 0 := by
    have h4 : x ^^^ (x ^^^ UInt8.ofNat m) = x ^^^ x := by rw [e]
    rw [← UInt8.xor_assoc, UInt8.xor_self, UInt8.zero_xor] at h4
    exact h4
  have h5 := congrArg UInt8.toNat h3
  simp at h5
  omega
/-- what rot does -/
theorem rot_or (S : Sp) (i a m : Int) : (∃ x, S.rot i a m = (S, x) ∧ x ≠ 0) ∨
    (∃ k : Nat, i = k ∧ k < S.secs.length ∧ newest S.way k = 0 ∧ (secJ S k).marked = false ∧ 0 ≤ a ∧ a < 384 ∧ 1 ≤ m ∧ m ≤ 255 ∧ S.rot i a m = ({ S with secs := S.secs.modify k (fun s => turnS s a.toNat m.toNat) }, 0)) := by
  unfold Sp.rot
  by_cases h0 : ¬ S.is i ∨ a < 0 ∨ 384 ≤ a ∨ m < 1 ∨ 255 < m
  · rw [if_pos h0]
    exact .inl ⟨1, rfl, by decide⟩
  · rw [if_neg h0]
    have hi : S.is i := Decidable.not_not.1 fun h => h0 (.inl h)
    obtain ⟨i0, il⟩ := hi
    by_cases h1 : newest S.way i.toNat ≠ 0
    · rw [if_pos h1]
      exact .inl ⟨10, rfl, by decide⟩
    · rw [if_neg h1]
      by_cases h2 : (S.secs.getD i.toNat ⟨[], false⟩).marked = true
      · rw [if_pos h2]
        exact .inl ⟨7, rfl, by decide⟩
      · rw [if_neg h2]
        refine .inr ⟨i.toNat, by omega, by omega, Decidable.not_not.1 h1, by simpa [secJ] using h2, ?_, ?_, ?_, ?_, rfl⟩ <;> omega
theorem turn_kc {s : Sec} {t : List UInt8} (h : KcJ (some t) s) {a m : Nat} (ha : a < 384) (h1 : 1 ≤ m) (h2 : m ≤ 255) : KcJ none (turnS s a m) := by
  obtain ⟨⟨g, hg⟩, _, ht⟩ := h
  refine ⟨rfl, ?_⟩
  have hlen : s.lasts.length = 384 := by rw [hg, layS_len _ _ ht]
  refine turns_not s.lasts a _ (by rw [hg]; exact lay_good _ _ ht) ha ?_
  rw [List.getD_eq_getElem?_getD, List.getElem?_eq_getElem (by omega)]
  simp only [Option.getD_some, ne_eq, Option.some.injEq]
  exact fun h => xorJ_ne _ m h1 h2 h.symm
theorem kc_some {o : Option (List UInt8)} {s : Sec} (h : KcJ o s) (hm : s.marked = false) : ∃ t, o = some t := by
  cases o with
  | none =>
    rw [h.1] at hm
    cases hm
  | some t => exact ⟨t, rfl⟩
theorem ks_rot {S : Sp} {K : Nat → Option (List UInt8)} (hk : KsJ S K) {k a m : Nat} (hkl : k < S.secs.length) (hm : (secJ S k).marked = false) (ha : a < 384) (h1 : 1 ≤ m) (h2 : m ≤ 255) :
    KsJ { S with secs := S.secs.modify k (fun s => turnS s a m) } (updJ K k none) := fun j j4 j20 => by
  have hs : secJ { S with secs := S.secs.modify k (fun s => turnS s a m) } j = if j = k then turnS (secJ S j) a m else secJ S j := secJ_mod (S := S) (f := fun s => turnS s a m) hkl rfl j
  rw [hs]
  unfold updJ
  by_cases e : j = k
  · subst e
    rw [if_pos rfl, if_pos rfl]
    obtain ⟨t, ht⟩ := kc_some (hk j j4 j20) hm
    have h := hk j j4 j20
    rw [ht] at h
    exact turn_kc h ha h1 h2
  · rw [if_neg e, if_neg e]
    exact hk j j4 j20
theorem turnJ_len (s : Sec) (a m : Nat) (h : s.lasts.length = 384) : (turnS s a m).lasts.length = 384 := by simp [turnS, h]
theorem rot_steps {S : Sp} {K : Nat → Option (List UInt8)} (h : TdJ S K) (i a m : Int) : (∃ x, S.rot i a m = (S, x) ∧ x ≠ 0) ∨
    (∃ (k : Nat) (S' : Sp), i = k ∧ S.rot i a m = (S', 0) ∧ TdJ S' (updJ K k none) ∧ S'.count = S.count ∧ S'.left = S.left) := by
  rcases rot_or S i a m with h1 | ⟨k, e, hk, _, hm, a0, a1, m1, m2, hr⟩
  · exact .inl h1
  · refine .inr ⟨k, _, e, hr, ⟨⟨h.cl.on, h.cl.way, ⟨modJ_len h.cl.ln.len k _ fun s hs => turnJ_len s _ _ hs⟩⟩, by show 20 ≤ (S.secs.modify k _).length; rw [List.length_modify]; exact h.n, ks_rot h.ks hk hm (by omega) (by omega) (by omega)⟩, rfl, rfl⟩
theorem rot_off {S : Sp} {K : Nat → Option (List UInt8)} {pend : Option (Nat × List UInt8)} (h : OffJ S K pend) (i a m : Int) : (∃ x, S.rot i a m = (S, x) ∧ x ≠ 0) ∨
    (∃ (k : Nat) (S' : Sp), i = k ∧ S.rot i a m = (S', 0) ∧ OffJ S' (updJ K k none) pend ∧ S'.count = S.count ∧ S'.left = S.left) := by
  rcases rot_or S i a m with h1 | ⟨k, e, hk, hnw, hm, a0, a1, m1, m2, hr⟩
  · exact .inl h1
  · obtain ⟨ho, hl, hn, hks, hw⟩ := h
    refine .inr ⟨k, _, e, hr, ⟨ho, ⟨modJ_len hl.len k _ fun s hs => turnJ_len s _ _ hs⟩, by show 20 ≤ (S.secs.modify k _).length; rw [List.length_modify]; exact hn, ks_rot hks hk hm (by omega) (by omega) (by omega), ?_⟩, rfl, rfl⟩
    cases pend with
    | none => exact hw
    | some it =>
      obtain ⟨j, t⟩ := it
      obtain ⟨j4, j20, ht, hw⟩ := hw
      refine ⟨j4, j20, ht, ?_⟩
      show S.way = _
      have hjk : j ≠ k := by
        intro q
        subst q
        rw [hw] at hnw
        have := (newest_zero [⟨j, layS (nextS (secJ S j).lasts) t⟩] j).1 hnw ⟨j, layS (nextS (secJ S j).lasts) t⟩ (by simp)
        exact this rfl
      have hs : secJ { S with secs := S.secs.modify k (fun s => turnS s a.toNat m.toNat) } j = secJ S j := by
        rw [secJ_mod (S := S) (f := fun s => turnS s a.toNat m.toNat) hk rfl j, if_neg hjk]
      rw [hs]
      exact hw
theorem open_noughts : openS (List.replicate 384 0) = ([], false) := by decide +kernel
end Go.Proofs.Ythlapdijnfcekaa
/-
  Texts that are laid one behind the other with one flush at the end (a grid's Write), in plain words: whatever the power leaves.
-/
namespace Go.Proofs.Ythlapdijnfcekaa
open Go.RowKit
set_option maxRecDepth 10000

/-- what a sector has: a text, or nothing that can be read -/
def KcG : Option (List UInt8) → Sec → Prop
  | some t, s => (∃ g, s.lasts = layS g t) ∧ t.length ≤ 376
  | none, s => openS s.lasts = ([], false)
/-- the writes behind k texts -/
def wayG (S : Sp) (B : Nat → List UInt8) (base : Nat) : Nat → List Wr
  | 0 => []
  | k + 1 => wayG S B base k ++ [⟨base + k, layS (nextS (secJ S (base + k)).lasts) (B k)⟩]
/-- k texts, without the flush -/
def laysG (S : Sp) (B : Nat → List UInt8) (base : Nat) : Nat → Sp × Int
  | 0 => (S, 0)
  | k + 1 =>
    if (laysG S B base k).2 ≠ 0 then laysG S B base k
    else if ((laysG S B base k).1.read ((base + k : Nat) : Int)).2 ≠ 0 then ((laysG S B base k).1, ((laysG S B base k).1.read ((base + k : Nat) : Int)).2)
    else (laysG S B base k).1.write ((base + k : Nat) : Int) (layS (nextS ((laysG S B base k).1.read ((base + k : Nat) : Int)).1) (B k))
/-- and with it -/
def writeG (S : Sp) (B : Nat → List UInt8) (base m : Nat) : Sp × Int := if (laysG S B base m).2 ≠ 0 then laysG S B base m else (laysG S B base m).1.flush
theorem wayG_mem {S : Sp} {B : Nat → List UInt8} {base : Nat} : ∀ {k : Nat} {x : Wr}, x ∈ wayG S B base k → ∃ j, j < k ∧ x = ⟨base + j, layS (nextS (secJ S (base + j)).lasts) (B j)⟩
  | 0, _, h => by cases h
  | k + 1, x, h => by
    rcases List.mem_append.1 h with h | h
    · obtain ⟨j, hj, e⟩ := wayG_mem h
      exact ⟨j, by omega, e⟩
    · simp only [List.mem_singleton] at h
      exact ⟨k, by omega, h⟩
theorem wayG_len (S : Sp) (B : Nat → List UInt8) (base : Nat) : ∀ k, (wayG S B base k).length = k
  | 0 => rfl
  | k + 1 => by rw [wayG, List.length_append, wayG_len S B base k]; rfl
/-- what the writes make of the sectors -/
theorem settG (F : Nat → Nat) (S : Sp) (B : Nat → List UInt8) (base : Nat) : ∀ k, base + k ≤ S.secs.length → ∀ i, (sett F (wayG S B base k) S.secs).getD i ⟨[], false⟩ = if base ≤ i ∧ i < base + k then takeS3 (secJ S i) (layS (nextS (secJ S i).lasts) (B (i - base))) (F (i - base)) else secJ S i
  | 0, _, i => by
    rw [if_neg (by omega)]
    rfl
  | k + 1, hk, i => by
    have ih := settG F S B base k (by omega) i
    rw [wayG, sett_snoc, wayG_len, List.getD_eq_getElem?_getD, List.getElem?_modify]
    rw [List.getD_eq_getElem?_getD] at ih
    by_cases q : base + k = i
    · subst q
      rw [if_neg (by omega)] at ih
      have hlt : base + k < (sett F (wayG S B base k) S.secs).length := by rw [sett_length]; omega
      rw [List.getElem?_eq_getElem hlt] at ih ⊢
      simp only [Option.getD_some] at ih
      simp only [if_true, Option.map_eq_map, Option.map_some, Option.getD_some]
      rw [ih, if_pos (by omega), show base + k - base = k by omega]
    · have e : ∀ o : Option Sec, ((fun a => a) <$> o) = o := fun o => by cases o <;> rfl
      simp only [if_neg q]
      rw [e, ih]
      by_cases w : base ≤ i ∧ i < base + k
      · rw [if_pos w, if_pos (by omega)]
      · rw [if_neg w, if_neg (by omega)]
theorem readG {S : Sp} {B : Nat → List UInt8} {base k : Nat} (h : ClJ S) (hk : base + k < S.secs.length) (c l : Nat) : ({ S with way := wayG S B base k, count := c, left := l } : Sp).read ((base + k : Nat) : Int) = ((secJ S (base + k)).lasts, 0) := by
  unfold Sp.read
  rw [if_neg (by simp only [Decidable.not_not]; exact ⟨by omega, by show ((base + k : Nat) : Int) < (S.secs.length : Int); omega⟩), if_neg (by show ¬ S.on = false; rw [h.on]; simp)]
  have hnz : newest (wayG S B base k) (base + k) = 0 := (newest_zero _ _).2 fun x hx => by
    obtain ⟨j, hj, e⟩ := wayG_mem hx
    subst e
    show base + j ≠ base + k
    omega
  rcases newest_get (wayG S B base k) (base + k) (secJ S (base + k)).lasts with ⟨_, h2, _⟩ | ⟨j, h1, _⟩
  · show (lastw (wayG S B base k) (((base + k : Nat) : Int).toNat) (S.secs.getD (((base + k : Nat) : Int).toNat) ⟨[], false⟩).lasts, (0 : Int)) = _
    rw [show ((base + k : Nat) : Int).toNat = base + k by omega]
    exact congrArg (·, (0 : Int)) h2
  · rw [hnz] at h1
    cases h1
theorem laysG_cl {S : Sp} {B : Nat → List UInt8} {base : Nat} (h : ClJ S) : ∀ k, base + k ≤ S.secs.length → (∀ j, j < k → (B j).length ≤ 376) →
    (laysG S B base k = ({ S with way := wayG S B base k, count := S.count + k, left := S.left - k }, 0) ∧ (S.left = 0 ∨ k < S.left)) ∨
    (∃ j, j < k ∧ laysG S B base k = ({ S with on := false, way := wayG S B base j, count := S.count + j + 1, left := 0 }, 6) ∧ S.left = j + 1)
  | 0, _, _ => .inl ⟨by show (S, (0 : Int)) = _; obtain ⟨a, b, c, d, e⟩ := S; have hw := h.way; simp only at hw; subst hw; rfl, by omega⟩
  | k + 1, hk, hB => by
    rcases laysG_cl (B := B) (base := base) h k (by omega) (fun j hj => hB j (by omega)) with ⟨e, hl⟩ | ⟨j, hj, e, hl⟩
    · have hr := readG (B := B) (base := base) (k := k) h (by omega) (S.count + k) (S.left - k)
      have hll : (layS (nextS (secJ S (base + k)).lasts) (B k)).length = 384 := layS_len _ _ (hB k (by omega))
      have e1 : laysG S B base (k + 1) = ({ S with way := wayG S B base k, count := S.count + k, left := S.left - k } : Sp).write ((base + k : Nat) : Int) (layS (nextS (secJ S (base + k)).lasts) (B k)) := by
        rw [laysG, e]
        simp only
        rw [if_neg (by simp), hr]
        simp only
        rw [if_neg (by simp)]
      rw [e1]
      by_cases h1 : S.left = k + 1
      · refine .inr ⟨k, by omega, ?_, h1⟩
        unfold Sp.write
        rw [if_neg (by rintro (q | q); exact q ⟨by omega, by show ((base + k : Nat) : Int) < (S.secs.length : Int); omega⟩; exact q hll), Sp.goes_one (S := { S with way := wayG S B base k, count := S.count + k, left := S.left - k }) h.on (by show S.left - k = 1; omega), if_neg (by simp)]
      · refine .inl ⟨?_, by omega⟩
        rw [Sp.write_ok (S := { S with way := wayG S B base k, count := S.count + k, left := S.left - k }) (by show base + k < S.secs.length; omega) hll h.on (by show S.left - k ≠ 1; omega)]
        show (({ S with left := S.left - k - 1, count := S.count + k + 1, way := wayG S B base k ++ [⟨base + k, layS (nextS (secJ S (base + k)).lasts) (B k)⟩] } : Sp), (0 : Int)) = _
        rw [show S.left - k - 1 = S.left - (k + 1) by omega, show S.count + k + 1 = S.count + (k + 1) by omega]
        rfl
    · have e1 : laysG S B base (k + 1) = ({ S with on := false, way := wayG S B base j, count := S.count + j + 1, left := 0 }, 6) := by
        rw [laysG, e]
        simp only
        rw [if_pos (by simp)]
      exact .inr ⟨j, by omega, e1, hl⟩
/-! ### what is there behind it -/
def KsG (S : Sp) (K : Nat → Option (List UInt8)) : Prop := ∀ i, i < S.secs.length → KcG (K i) (secJ S i)
structure OnG (S : Sp) (K : Nat → Option (List UInt8)) : Prop where
  cl : ClJ S
  ks : KsG S K
def updG (K : Nat → Option (List UInt8)) (B : Nat → List UInt8) (base m : Nat) : Nat → Option (List UInt8) := fun i => if base ≤ i ∧ i < base + m then some (B (i - base)) else K i
/-- of each text: it is there, or what was there is, or nothing that can be read -/
def MixG (K : Nat → Option (List UInt8)) (B : Nat → List UInt8) (base m : Nat) (K' : Nat → Option (List UInt8)) : Prop := ∀ i, K' i = K i ∨ (base ≤ i ∧ i < base + m ∧ (K' i = some (B (i - base)) ∨ K' i = none))
def pickK (K : Nat → Option (List UInt8)) (B : Nat → List UInt8) (base j : Nat) (F : Nat → Nat) : Nat → Option (List UInt8) := fun i =>
  if base ≤ i ∧ i < base + j then (if F (i - base) = 0 then K i else if F (i - base) = 384 then some (B (i - base)) else none) else K i
theorem take_kg {s : Sec} {o : Option (List UInt8)} {t : List UInt8} (hl : s.lasts.length = 384) (ht : t.length ≤ 376) (ho : KcG o s) (c : Nat) (hc : c ≤ 384) :
    KcG (if c = 0 then o else if c = 384 then some t else none) (takeS3 s (layS (nextS s.lasts) t) c) := by
  by_cases h0 : c = 0
  · subst h0
    rw [if_pos rfl]
    have e : (takeS3 s (layS (nextS s.lasts) t) 0) = s := by
      unfold takeS3
      simp
    rw [e]
    exact ho
  · rw [if_neg h0]
    by_cases h1 : c = 384
    · subst h1
      rw [if_pos rfl]
      obtain ⟨g, _, hg⟩ := take_all_kc hl ht
      exact ⟨g, hg⟩
    · rw [if_neg h1]
      exact tears_not _ t s.lasts c ht (next_own _ hl) (by omega) (by omega)
theorem sett_on {S : Sp} {K : Nat → Option (List UInt8)} {B : Nat → List UInt8} {base j : Nat} (h : OnG S K) (hj : base + j ≤ S.secs.length) (hB : ∀ i, i < j → (B i).length ≤ 376) {F : Nat → Nat} (hF : ∀ k, F k ≤ 384) {T : Sp} (h1 : T.on = true) (h2 : T.way = []) (h3 : T.secs = sett F (wayG S B base j) S.secs) :
    OnG T (pickK K B base j F) := by
  refine ⟨⟨h1, h2, ⟨?_⟩⟩, fun i hi => ?_⟩
  · rw [h3]
    refine sett_wf F hF _ _ h.cl.ln.len fun x hx => ?_
    obtain ⟨k, hk, e⟩ := wayG_mem hx
    rw [e]
    exact layS_len _ _ (hB k hk)
  · rw [h3, sett_length] at hi
    have e : secJ T i = (sett F (wayG S B base j) S.secs).getD i ⟨[], false⟩ := by unfold secJ; rw [h3]
    rw [e, settG F S B base j hj i]
    unfold pickK
    by_cases w : base ≤ i ∧ i < base + j
    · rw [if_pos w, if_pos w]
      exact take_kg (secJ_len h.cl.ln hi) (hB _ (by omega)) (h.ks i hi) _ (hF _)
    · rw [if_neg w, if_neg w]
      exact h.ks i hi
theorem pick_mix (K : Nat → Option (List UInt8)) (B : Nat → List UInt8) {base j m : Nat} (hj : j ≤ m) (F : Nat → Nat) : MixG K B base m (pickK K B base j F) := fun i => by
  unfold pickK
  by_cases w : base ≤ i ∧ i < base + j
  · rw [if_pos w]
    by_cases h0 : F (i - base) = 0
    · rw [if_pos h0]
      exact .inl rfl
    · rw [if_neg h0]
      refine .inr ⟨w.1, by omega, ?_⟩
      by_cases h1 : F (i - base) = 384
      · rw [if_pos h1]
        exact .inl rfl
      · rw [if_neg h1]
        exact .inr rfl
  · rw [if_neg w]
    exact .inl rfl
/-- a Write: all is there; or the power is gone, and behind it each text is there, or what was there, or nothing that can be read -/
theorem write_cl {S : Sp} {K : Nat → Option (List UInt8)} {B : Nat → List UInt8} {base m : Nat} (h : OnG S K) (hm : base + m ≤ S.secs.length) (hB : ∀ i, i < m → (B i).length ≤ 376) :
    (∃ S', writeG S B base m = (S', 0) ∧ OnG S' (updG K B base m) ∧ S'.secs.length = S.secs.length ∧ S'.count = S.count + m + 1 ∧ S'.left = S.left - m - 1 ∧ (S.left = 0 ∨ m + 1 < S.left) ∧ ∀ i, i < m → KcJ (some (B i)) (secJ S' (base + i))) ∨
    (∃ S', writeG S B base m = (S', 6) ∧ S'.on = false ∧ S.left ≠ 0 ∧ ∀ picks, ∃ S'' K', S'.start picks = (S'', 0) ∧ OnG S'' K' ∧ MixG K B base m K' ∧ S''.secs.length = S.secs.length) := by
  have off : ∀ j c, j ≤ m → ∀ picks, ∃ S'' K', ({ S with on := false, way := wayG S B base j, count := c, left := 0 } : Sp).start picks = (S'', 0) ∧ OnG S'' K' ∧ MixG K B base m K' ∧ S''.secs.length = S.secs.length := fun j c hj picks => by
    rw [Sp.start_ok (S := { S with on := false, way := wayG S B base j, count := c, left := 0 }) rfl]
    exact ⟨_, _, rfl, sett_on h (by omega) (fun i hi => hB i (by omega)) (fun k => pickOf_le picks k) rfl rfl rfl, pick_mix K B hj _, sett_length _ _ _⟩
  unfold writeG
  rcases laysG_cl (B := B) (base := base) h.cl m hm hB with ⟨e, hl⟩ | ⟨j, hj, e, hl⟩
  · rw [e, if_neg (by simp)]
    simp only
    by_cases h1 : S.left = m + 1
    · refine .inr ⟨{ S with on := false, way := wayG S B base m, count := S.count + m + 1, left := 0 }, ?_, rfl, by omega, off m _ (Nat.le_refl _)⟩
      unfold Sp.flush
      rw [Sp.goes_one (S := { S with way := wayG S B base m, count := S.count + m, left := S.left - m }) h.cl.on (by show S.left - m = 1; omega), if_neg (by simp)]
    · refine .inl ⟨_, Sp.flush_ok (S := { S with way := wayG S B base m, count := S.count + m, left := S.left - m }) h.cl.on (by show S.left - m ≠ 1; omega), ?_, sett_length (fun _ => 384) (wayG S B base m) S.secs, rfl, rfl, by omega, fun i hi => ?_⟩
      rotate_left
      · have e : secJ ({ S with way := [], count := S.count + m + 1, left := S.left - m - 1, secs := sett (fun _ => 384) (wayG S B base m) S.secs } : Sp) (base + i) = takeS3 (secJ S (base + i)) (layS (nextS (secJ S (base + i)).lasts) (B i)) 384 := by
          show (sett (fun _ => 384) (wayG S B base m) S.secs).getD (base + i) ⟨[], false⟩ = _
          rw [settG (fun _ => 384) S B base m hm, if_pos (by omega), show base + i - base = i by omega]
        exact e ▸ take_all_kc (secJ_len h.cl.ln (by omega)) (hB i hi)
      have hs := sett_on (K := K) (B := B) (j := m) (F := fun _ => 384) (T := { S with way := [], count := S.count + m + 1, left := S.left - m - 1, secs := sett (fun _ => 384) (wayG S B base m) S.secs }) h hm hB (fun _ => Nat.le_refl _) h.cl.on rfl rfl
      have e2 : pickK K B base m (fun _ => 384) = updG K B base m := by
        funext i
        unfold pickK updG
        rw [if_neg (show ¬ (384 : Nat) = 0 by decide), if_pos rfl]
      rw [e2] at hs
      exact hs
  · rw [e, if_pos (by simp)]
    exact .inr ⟨_, rfl, rfl, by omega, off j _ (by omega)⟩
end Go.Proofs.Ythlapdijnfcekaa
/-
  A grid's Block, Load in plain words: what is loaded of what is there. (ch: the sum of a block behind its number.)
-/
namespace Go.Proofs.Ythlapdijnfcekaa
open Go.RowKit
set_option maxRecDepth 10000

/-- so many blocks; a text's block; how long it is -/
def cntG (size : Nat) : Nat := (size + 319) / 320
def pieceG (s : List UInt8) (i : Nat) : List UInt8 := (s.drop (320 * i)).take 320
def wantG (size i : Nat) : Nat := min 320 (size - 320 * i)
def sumG (ch : Nat → List UInt8 → Int) (s : List UInt8) (i : Nat) : Int := if i < cntG s.length then ch i (pieceG s i) else 0
theorem piece_len (s : List UInt8) (i : Nat) : (pieceG s i).length = wantG s.length i := by
  unfold pieceG wantG
  rw [List.length_take, List.length_drop]
theorem piece_le (s : List UInt8) (i : Nat) : (pieceG s i).length ≤ 320 := by
  rw [piece_len]
  unfold wantG
  omega
theorem piece_take (s : List UInt8) (k : Nat) : s.take (320 * k) ++ pieceG s k = s.take (320 * (k + 1)) := by
  unfold pieceG
  rw [show 320 * (k + 1) = 320 * k + 320 by omega, List.take_add]
theorem take_cnt (s : List UInt8) : s.take (320 * cntG s.length) = s := List.take_of_length_le (by unfold cntG; omega)
/-- a block, by what its sector has -/
def blockK (ch : Nat → List UInt8 → Int) (o : Option (List UInt8)) (i : Nat) (sum : Int) : List UInt8 × Bool :=
  match o with
  | none => ([], false)
  | some t => if 320 < t.length ∨ ch i t ≠ sum then ([], false) else (t, true)
def blockS (ch : Nat → List UInt8 → Int) (p : List UInt8) (i : Nat) (sum : Int) : List UInt8 × Bool :=
  if (openS p).2 = false ∨ 320 < (openS p).1.length ∨ ch i (openS p).1 ≠ sum then ([], false) else ((openS p).1, true)
theorem block_kc {ch : Nat → List UInt8 → Int} {o : Option (List UInt8)} {s : Sec} (h : KcG o s) (i : Nat) (sum : Int) : blockS ch s.lasts i sum = blockK ch o i sum := by
  unfold blockS blockK
  cases o with
  | none =>
    have h : openS s.lasts = ([], false) := h
    rw [h, if_pos (.inl rfl)]
  | some t =>
    obtain ⟨⟨g, hg⟩, ht⟩ := h
    rw [hg, open_lay g t ht]
    simp
/-- Load, behind k blocks -/
def loadA (ch : Nat → List UInt8 → Int) (K : Nat → Option (List UInt8)) (base size : Nat) (sums : Nat → Int) : Nat → List UInt8 × List Nat
  | 0 => ([], [])
  | k + 1 => ((loadA ch K base size sums k).1 ++ (blockK ch (K (base + k)) k (sums k)).1,
      if (blockK ch (K (base + k)) k (sums k)).2 = false ∨ (blockK ch (K (base + k)) k (sums k)).1.length ≠ wantG size k then (loadA ch K base size sums k).2 ++ [k] else (loadA ch K base size sums k).2)
def loadK (ch : Nat → List UInt8 → Int) (K : Nat → Option (List UInt8)) (base size : Nat) (sums : Nat → Int) : List UInt8 × List Nat :=
  if (loadA ch K base size sums (cntG size)).2 ≠ [] then ([], (loadA ch K base size sums (cntG size)).2) else ((loadA ch K base size sums (cntG size)).1, [])
theorem block_own {ch : Nat → List UInt8 → Int} {t : List UInt8} (ht : t.length ≤ 320) (i : Nat) : blockK ch (some t) i (ch i t) = (t, true) := by
  unfold blockK
  simp only
  rw [if_neg (by rintro (q | q); · omega
                 · exact q rfl)]
/-- what was written is loaded; just what can't be read is missing -/
theorem load_miss {ch : Nat → List UInt8 → Int} {K : Nat → Option (List UInt8)} {base : Nat} {s : List UInt8} (h : ∀ i, i < cntG s.length → K (base + i) = some (pieceG s i) ∨ K (base + i) = none) : ∀ k, k ≤ cntG s.length →
    (loadA ch K base s.length (sumG ch s) k).2 = (List.range k).filter (fun i => K (base + i) = none) ∧ ((∀ i, i < k → K (base + i) ≠ none) → (loadA ch K base s.length (sumG ch s) k).1 = s.take (320 * k))
  | 0, _ => ⟨rfl, fun _ => rfl⟩
  | k + 1, hk => by
    obtain ⟨h1, h2⟩ := load_miss (ch := ch) h k (by omega)
    have e1 : sumG ch s k = ch k (pieceG s k) := if_pos (by omega)
    have hr : (List.range (k + 1)).filter (fun i => decide (K (base + i) = none)) = (List.range k).filter (fun i => decide (K (base + i) = none)) ++ (if K (base + k) = none then [k] else []) := by
      rw [List.range_succ, List.filter_append]
      by_cases q : K (base + k) = none
      · rw [if_pos q]
        simp [q]
      · rw [if_neg q]
        simp [q]
    rw [hr]
    rcases h k (by omega) with q | q
    · have hb : blockK ch (K (base + k)) k (sumG ch s k) = (pieceG s k, true) := by rw [q, e1]; exact block_own (piece_le s k) k
      constructor
      · rw [loadA, hb]
        simp only
        rw [if_neg (by rintro (w | w); · cases w
                       · exact w (piece_len s k)), h1, if_neg (by rw [q]; simp), List.append_nil]
      · intro hn
        rw [loadA, hb]
        simp only
        rw [h2 (fun i hi => hn i (by omega))]
        exact piece_take s k
    · have hb : blockK ch (K (base + k)) k (sumG ch s k) = ([], false) := by rw [q]; rfl
      constructor
      · rw [loadA, hb]
        simp only
        rw [if_pos (.inl trivial), h1, if_pos q]
      · intro hn
        exact absurd q (hn k (by omega))
theorem load_all {ch : Nat → List UInt8 → Int} {K : Nat → Option (List UInt8)} {base : Nat} {s : List UInt8} (h : ∀ i, i < cntG s.length → K (base + i) = some (pieceG s i)) : loadK ch K base s.length (sumG ch s) = (s, []) := by
  obtain ⟨h1, h2⟩ := load_miss (ch := ch) (fun i hi => .inl (h i hi)) (cntG s.length) (Nat.le_refl _)
  have e1 : (List.range (cntG s.length)).filter (fun i => decide (K (base + i) = none)) = [] := by
    rw [List.filter_eq_nil_iff]
    intro i hi
    rw [h i (List.mem_range.1 hi)]
    simp
  rw [e1] at h1
  unfold loadK
  rw [h1, if_neg (by simp), h2 (fun i hi => by rw [h i hi]; simp), take_cnt]
/-- whatever is there: what is loaded has as many bytes, and the sums -/
theorem load_sums {ch : Nat → List UInt8 → Int} {K : Nat → Option (List UInt8)} {base size : Nat} {sums : Nat → Int} : ∀ k, k ≤ cntG size → (loadA ch K base size sums k).2 = [] →
    (loadA ch K base size sums k).1.length = min size (320 * k) ∧ ∀ i, i < k → (blockK ch (K (base + i)) i (sums i)) = (pieceG (loadA ch K base size sums k).1 i, true) ∧ ch i (pieceG (loadA ch K base size sums k).1 i) = sums i
  | 0, _, _ => ⟨by show 0 = _; omega, fun i hi => absurd hi (Nat.not_lt_zero _)⟩
  | k + 1, hk, h => by
    rw [loadA] at h
    simp only at h
    by_cases C : (blockK ch (K (base + k)) k (sums k)).2 = false ∨ (blockK ch (K (base + k)) k (sums k)).1.length ≠ wantG size k
    · rw [if_pos C] at h
      simp at h
    · rw [if_neg C] at h
      obtain ⟨hl, ih⟩ := load_sums k (by omega) h
      have hc : cntG size = (size + 319) / 320 := rfl
      generalize hb : blockK ch (K (base + k)) k (sums k) = b at *
      obtain ⟨t, ok⟩ := b
      simp only at C
      have ok1 : ok = true := by
        cases ok
        · exact absurd (.inl rfl) C
        · rfl
      subst ok1
      have tl : t.length = wantG size k := by
        by_cases q : t.length = wantG size k
        · exact q
        · exact absurd (.inr q) C
      have hs : ch k t = sums k := by
        unfold blockK at hb
        split at hb
        · simp at hb
        · split at hb
          · simp at hb
          · rename_i w
            have e := (Prod.mk.inj hb).1
            rw [e] at w
            by_cases q : ch k t = sums k
            · exact q
            · exact absurd (.inr q) w
      have e1 : (loadA ch K base size sums (k + 1)).1 = (loadA ch K base size sums k).1 ++ t := by
        rw [loadA, hb]
      have hfull : (loadA ch K base size sums k).1.length = 320 * k := by
        rw [hl]
        omega
      rw [e1]
      generalize (loadA ch K base size sums k).1 = A at *
      have hwt : wantG size k = min 320 (size - 320 * k) := rfl
      refine ⟨by rw [List.length_append, hfull, tl]; omega, fun i hi => ?_⟩
      by_cases q : i = k
      · subst q
        have e2 : pieceG (A ++ t) i = t := by
          unfold pieceG
          rw [List.drop_append_of_le_length (by omega), List.drop_eq_nil_of_le (by omega), List.nil_append, List.take_of_length_le (by omega)]
        rw [e2, hb]
        exact ⟨rfl, hs⟩
      · have e2 : pieceG (A ++ t) i = pieceG A i := by
          unfold pieceG
          rw [List.drop_append_of_le_length (by omega), List.take_append_of_le_length (by rw [List.length_drop]; omega)]
        rw [e2]
        exact ih i (by omega)
end Go.Proofs.Ythlapdijnfcekaa
/-
  A grid's promises in plain words: what was written is loaded; what has rotted is missing, and can be put anew; nothing else is ever loaded.
-/
namespace Go.Proofs.Ythlapdijnfcekaa
open Go.RowKit
set_option maxRecDepth 10000

theorem begin_g (n : Nat) : OnG (Sp.mk0 n) (fun _ => none) := by
  have h0 : ∀ i, i < n → secJ (Sp.mk0 n) i = sec0 := fun i hi => by
    show (List.replicate n sec0).getD i _ = _
    rw [List.getD_eq_getElem?_getD, List.getElem?_replicate_of_lt hi]
    rfl
  refine ⟨⟨rfl, rfl, ⟨fun s hs => ?_⟩⟩, fun i hi => ?_⟩
  · have hs : s ∈ List.replicate n sec0 := hs
    rw [(List.mem_replicate.1 hs).2]
    exact b384_len 0
  · have hi : i < n := by
      have : i < (List.replicate n sec0).length := hi
      rwa [List.length_replicate] at this
    rw [h0 i hi]
    exact open_noughts
theorem fuse_g {S : Sp} {K : Nat → Option (List UInt8)} (h : OnG S K) (n : Int) : ∃ S', S.fuse n = (S', 0) ∧ OnG S' K ∧ S'.secs = S.secs ∧ S'.left = n.toNat := by
  refine ⟨{ S with left := n.toNat }, ?_, ⟨⟨h.cl.on, h.cl.way, ⟨h.cl.ln.len⟩⟩, h.ks⟩, rfl, rfl⟩
  unfold Sp.fuse
  rw [if_neg (by rw [h.cl.on]; simp)]
theorem cnt_six {s : List UInt8} (h : s.length ≤ 1920) : cntG s.length ≤ 6 := by unfold cntG; omega
theorem upd_in (K : Nat → Option (List UInt8)) (B : Nat → List UInt8) {base m i : Nat} (hi : i < m) : updG K B base m (base + i) = some (B i) := by
  unfold updG
  rw [if_pos (by omega), show base + i - base = i by omega]
/-- what was written is loaded, whatever is written beside it, wherever the power goes in that -/
theorem keeps_g {ch : Nat → List UInt8 → Int} {S : Sp} {K : Nat → Option (List UInt8)} {s o : List UInt8} {base base' : Nat} (h : OnG S K) (hs : ∀ i, i < cntG s.length → K (base + i) = some (pieceG s i)) (ho : base' + cntG o.length ≤ S.secs.length) (hd : base + cntG s.length ≤ base' ∨ base' + cntG o.length ≤ base) :
    (∃ S' K', writeG S (pieceG o) base' (cntG o.length) = (S', 0) ∧ OnG S' K' ∧ loadK ch K' base s.length (sumG ch s) = (s, [])) ∨
    (∃ S', writeG S (pieceG o) base' (cntG o.length) = (S', 6) ∧ S'.on = false ∧ ∀ picks, ∃ S'' K', S'.start picks = (S'', 0) ∧ OnG S'' K' ∧ loadK ch K' base s.length (sumG ch s) = (s, [])) := by
  rcases write_cl (B := pieceG o) h ho (fun i _ => Nat.le_trans (piece_le o i) (by decide)) with ⟨S', e, h', _⟩ | ⟨S', e, off, _, hp⟩
  · refine .inl ⟨S', _, e, h', load_all fun i hi => ?_⟩
    unfold updG
    rw [if_neg (by omega)]
    exact hs i hi
  · refine .inr ⟨S', e, off, fun picks => ?_⟩
    obtain ⟨S'', K', e2, h2, hm, _⟩ := hp picks
    refine ⟨S'', K', e2, h2, load_all fun i hi => ?_⟩
    rcases hm (base + i) with q | ⟨q1, q2, _⟩
    · rw [q]
      exact hs i hi
    · omega
/-- a written area, some of whose blocks have rotted -/
structure RotG (S : Sp) (K : Nat → Option (List UInt8)) (base m : Nat) : Prop where
  on : OnG S K
  ks : ∀ i, i < m → KcJ (K (base + i)) (secJ S (base + i))
theorem rot_g {S : Sp} {K : Nat → Option (List UInt8)} {base m : Nat} (h : RotG S K base m) {k : Nat} (hk : k < m) (a b : Int) :
    (∃ x, S.rot ((base + k : Nat) : Int) a b = (S, x) ∧ x ≠ 0) ∨ (∃ S', S.rot ((base + k : Nat) : Int) a b = (S', 0) ∧ RotG S' (updJ K (base + k) none) base m ∧ S'.secs.length = S.secs.length ∧ S'.left = S.left) := by
  rcases rot_or S ((base + k : Nat) : Int) a b with h1 | ⟨j, e, hj, _, hm, a0, a1, m1, m2, hr⟩
  · exact .inl h1
  · right
    obtain rfl : base + k = j := by omega
    have hks := h.ks k hk
    obtain ⟨t, ht⟩ := kc_some hks hm
    rw [ht] at hks
    have hn := turn_kc hks (a := a.toNat) (m := b.toNat) (by omega) (by omega) (by omega)
    have hs : ∀ i, secJ ({ S with secs := S.secs.modify (base + k) (fun s => turnS s a.toNat b.toNat) } : Sp) i = if i = base + k then turnS (secJ S i) a.toNat b.toNat else secJ S i := fun i => secJ_mod (S := S) (f := fun s => turnS s a.toNat b.toNat) hj rfl i
    refine ⟨_, hr, ⟨⟨⟨h.on.cl.on, h.on.cl.way, ⟨modJ_len h.on.cl.ln.len _ _ fun s q => turnJ_len s _ _ q⟩⟩, fun i hi => ?_⟩, fun i hi => ?_⟩, List.length_modify .., rfl⟩
    · have hi : i < (S.secs.modify (base + k) (fun s => turnS s a.toNat b.toNat)).length := hi
      rw [List.length_modify] at hi
      rw [hs i]
      unfold updJ
      by_cases q : i = base + k
      · rw [if_pos q, if_pos q, q]
        exact hn.2
      · rw [if_neg q, if_neg q]
        exact h.on.ks i hi
    · rw [hs (base + i)]
      unfold updJ
      by_cases q : base + i = base + k
      · rw [if_pos q, if_pos q, q]
        exact hn
      · rw [if_neg q, if_neg q]
        exact h.ks i hi
/-- a block that is put anew -/
theorem put_g {S : Sp} {K : Nat → Option (List UInt8)} {base i : Nat} {b : List UInt8} (h : OnG S K) (h0 : S.left = 0) (hb : base + i < S.secs.length) (hl : b.length ≤ 320) :
    ∃ S', writeG S (fun _ => b) (base + i) 1 = (S', 0) ∧ OnG S' (updJ K (base + i) (some b)) ∧ S'.secs.length = S.secs.length ∧ S'.left = 0 := by
  rcases write_cl (B := fun _ => b) (m := 1) h (base := base + i) (by omega) (fun _ _ => by show b.length ≤ 376; omega) with ⟨S', e, h', hn, _, hl', _⟩ | ⟨S', _, _, hne, _⟩
  · have e1 : updG K (fun _ => b) (base + i) 1 = updJ K (base + i) (some b) := by
      funext j
      unfold updG updJ
      by_cases q : j = base + i
      · rw [if_pos (by omega), if_pos q]
      · rw [if_neg (by omega), if_neg q]
    rw [e1] at h'
    exact ⟨S', e, h', hn, by omega⟩
  · exact absurd h0 hne
/-- whatever is there: what is loaded by a text's sums has them, and its blocks are what Block answers -/
theorem tears_g {ch : Nat → List UInt8 → Int} {K : Nat → Option (List UInt8)} {base : Nat} {s t : List UInt8} {l : List Nat} (h : loadK ch K base s.length (sumG ch s) = (t, l)) :
    (l ≠ [] ∧ t = []) ∨ (l = [] ∧ t.length = s.length ∧ (∀ i, sumG ch t i = sumG ch s i) ∧ ∀ i, i < cntG s.length → blockK ch (K (base + i)) i (sumG ch s i) = (pieceG t i, true)) := by
  unfold loadK at h
  by_cases q : (loadA ch K base s.length (sumG ch s) (cntG s.length)).2 ≠ []
  · rw [if_pos q] at h
    obtain ⟨e1, e2⟩ := Prod.mk.inj h
    subst e1
    subst e2
    exact .inl ⟨q, rfl⟩
  · rw [if_neg q] at h
    obtain ⟨e1, e2⟩ := Prod.mk.inj h
    obtain ⟨hl, hb⟩ := load_sums (cntG s.length) (Nat.le_refl _) (Decidable.not_not.1 q)
    rw [e1] at hl hb
    have hlen : t.length = s.length := by
      rw [hl]
      unfold cntG
      omega
    refine .inr ⟨e2.symm, hlen, fun i => ?_, fun i hi => (hb i hi).1⟩
    unfold sumG
    rw [hlen]
    by_cases w : i < cntG s.length
    · have h2 := (hb i w).2
      unfold sumG at h2
      rw [if_pos w] at h2 ⊢
      rw [if_pos w]
      exact h2
    · rw [if_neg w, if_neg w]
end Go.Proofs.Ythlapdijnfcekaa
/-
  A disk in memory, blocks apart; what each call leaves.
-/
namespace Go.Proofs.Ythlapdijnfcekaa
open Go.RowKit
set_option maxRecDepth 10000

theorem Fr.of_below {w w' : World} (h : Below w.heap.size w w') : Fr w w' [] := ⟨h.os, h.tape, h.output, h.size, fun b hb _ => h.block b hb⟩
/-! ### lists as arrays, under short names -/
theorem la1 {α : Type} {xs : List α} {i : Nat} (h : i < xs.toArray.size) : xs.toArray[i] = xs[i]'(by simpa using h) := List.getElem_toArray h
theorem la2 {α : Type} (a : α) (xs : List α) (i : Nat) (h : i + 1 < (a :: xs).length) : (a :: xs)[i + 1] = xs[i]'(by simpa using h) := List.getElem_cons_succ a xs i h
theorem la3 {α : Type} (a : α) (xs : List α) (h : 0 < (a :: xs).length) : (a :: xs)[0] = a := rfl
theorem la4 {α : Type} (l : List α) (i : Nat) (a : α) : l.toArray.setIfInBounds i a = (l.set i a).toArray := List.setIfInBounds_toArray ..
theorem la5 {α : Type} {x : α} {xs : List α} {n : Nat} {a : α} : (x :: xs).set (n + 1) a = x :: xs.set n a := rfl
theorem la6 {α : Type} {x : α} {xs : List α} {a : α} : (x :: xs).set 0 a = a :: xs := rfl
section
variable {P : Program} {ops : Array Oper} {Q : Exit → Act → World → Prop} {md : Region.Mode} {S : World → Prop} {i : Nat} {oi : Oper} {v : Value} {fuel : Nat} {listed : Array Bool} {a : Act} {w : World}
/-- an operation that only looks is taken -/
theorem tk_ (hi : ops[i]? = some oi) (hy : YieldsIf P ops S oi v a) (hS : S w) (h : wpAnyH P md ops Q S fuel (listed.setIfInBounds i true) (a.put oi.dst v) w) (hs : Region.noSelect ops = true := by kernel_rfl) (hf : Region.free md ops listed i = true := by kernel_rfl)
    (hr : (Region.ready md ops listed).contains i = true := by kernel_rfl) (hQ : ∀ c a w, Q (.panic c) (a.put oi.dst v) w → Q (.panic c) a w := by exact fun _ _ _ h => h) : wpAnyH P md ops Q S (fuel + 1) listed a w := wpAnyH_take hi hs hf hr hQ hy hS h
end
/-- what lies in G is as it was -/
def Ek (w w' : World) (G : List Nat) : Prop := ∀ g ∈ G, w'.heap[g]? = w.heap[g]?
section
variable {w w' w'' : World} {G G' : List Nat}
theorem Ek.refl (w : World) (G : List Nat) : Ek w w G := fun _ _ => rfl
theorem Ek.trans (h : Ek w w' G) (k : Ek w' w'' G) : Ek w w'' G := fun g hg => (k g hg).trans (h g hg)
theorem Ek.tail {g : Nat} (h : Ek w w' (g :: G)) : Ek w w' G := fun x hx => h x (List.mem_cons_of_mem _ hx)
theorem Ek.sub (h : Ek w w' G) (hs : ∀ g ∈ G', g ∈ G) : Ek w w' G' := fun x hx => h x (hs x hx)
theorem Ek.row {g : Nat} {e : TypeId} {cs : List Value} (h : Ek w w' G) (hr : Row w g e cs) (hg : g ∈ G) : Row w' g e cs := (h g hg).trans hr
theorem Ek.drewN (w : World) (n : Nat) (G : List Nat) : Ek w (w.drewN n) G := fun _ _ => rfl
end
/-- a disk S at p, made since w0, the blocks G apart -/
def Dd (w0 w : World) (p gs : Nat) (S : Sp) (G : List Nat) : Prop :=
  ∃ vd, HasD w p gs vd S ∧ (∀ b ∈ fpD p gs vd, w0.heap.size ≤ b ∧ b ∉ G) ∧ Below w0.heap.size w0 w ∧ (∀ g ∈ G, g < w.heap.size)
section
variable {w0 w w' w'' : World} {p gs : Nat} {S S' : Sp} {G G' : List Nat}
theorem Dd.below (h : Dd w0 w p gs S G) : Below w0.heap.size w0 w := by
  obtain ⟨_, _, _, h, _⟩ := h
  exact h
theorem Dd.size (h : Dd w0 w p gs S G) : w0.heap.size ≤ w.heap.size := h.below.size
theorem Dd.lt (h : Dd w0 w p gs S G) : ∀ g ∈ G, g < w.heap.size := by
  obtain ⟨_, _, _, _, h⟩ := h
  exact h
theorem Dd.wf (h : Dd w0 w p gs S G) : S.WF := by
  obtain ⟨_, h, _⟩ := h
  exact h.wf
/-- new memory -/
theorem Dd.new (h : Dd w0 w p gs S G) (hb : Below w.heap.size w w') : Dd w0 w' p gs S G ∧ Ek w w' G := by
  have hl := h.lt
  obtain ⟨vd, h1, h2, h3, h4⟩ := h
  exact ⟨⟨vd, h1.fr (Fr.of_below hb) (by simp), h2, h3.trans (hb.mono h3.size), fun g hg => Nat.lt_of_lt_of_le (h4 g hg) hb.size⟩, fun g hg => hb.block g (hl g hg)⟩
/-- a block that is new is put apart -/
theorem Dd.add (h : Dd w0 w p gs S G) (hb : Below w.heap.size w w') {g : Nat} (hg : w.heap.size ≤ g) (hlt : g < w'.heap.size) : Dd w0 w' p gs S (g :: G) := by
  obtain ⟨vd, h1, h2, h3, h4⟩ := h
  refine ⟨vd, h1.fr (Fr.of_below hb) (by simp), fun b hb' => ⟨(h2 b hb').1, ?_⟩, h3.trans (hb.mono h3.size), fun x hx => ?_⟩
  · have := h1.lt b hb'
    simp only [List.mem_cons, not_or]
    exact ⟨by omega, (h2 b hb').2⟩
  · rcases List.mem_cons.1 hx with rfl | hx
    · exact hlt
    · exact Nat.lt_of_lt_of_le (h4 x hx) hb.size
theorem Dd.sub (h : Dd w0 w p gs S G) (hs : ∀ g ∈ G', g ∈ G) : Dd w0 w p gs S G' := by
  obtain ⟨vd, h1, h2, h3, h4⟩ := h
  exact ⟨vd, h1, fun b hb => ⟨(h2 b hb).1, fun hm => (h2 b hb).2 (hs b hm)⟩, h3, fun g hg => h4 g (hs g hg)⟩
theorem Dd.tail {g : Nat} (h : Dd w0 w p gs S (g :: G)) : Dd w0 w p gs S G := h.sub fun _ hx => List.mem_cons_of_mem _ hx
/-- a block apart is turned -/
theorem Dd.put (h : Dd w0 w p gs S G) {g : Nat} (hg : g ∈ G) (h0 : w0.heap.size ≤ g) (hb : w.grownBy w' (some g)) : Dd w0 w' p gs S G := by
  obtain ⟨vd, h1, h2, h3, h4⟩ := h
  refine ⟨vd, h1.fr (fp := [g]) ((Fr.refl w [g]).grown hb (fun k hk => .inl (by simp [Option.some.inj hk]))) (fun b hb' hn => ?_), h2, h3.trans (below_grown hb h0 h3.size), fun x hx => Nat.lt_of_lt_of_le (h4 x hx) hb.size⟩
  rw [List.mem_singleton.1 hn] at hb'
  exact (h2 g hb').2 hg
theorem ek_put {g : Nat} (hb : w.grownBy w' (some g)) (hl : ∀ x ∈ G, x < w.heap.size) (hg : g ∉ G) : Ek w w' G := fun x hx => hb.block x (hl x hx) (fun e => hg (by rw [← Option.some.inj e]; exact hx))
/-- a call on the disk -/
def DC (w0 w : World) (p gs : Nat) (S' : Sp) (G : List Nat) (v : Value) (e : Ending) (w' : World) : Prop := e = .returned v ∧ Dd w0 w' p gs S' G ∧ Ek w w' G
theorem Dd.step {vd : Value} (h1 : HasD w p gs vd S) (h2 : ∀ b ∈ fpD p gs vd, w0.heap.size ≤ b ∧ b ∉ G) (h3 : Below w0.heap.size w0 w) (h4 : ∀ g ∈ G, g < w.heap.size) (hd : DX w p gs vd S' w') : Dd w0 w' p gs S' G ∧ Ek w w' G := by
  obtain ⟨vd', k1, k2, k3⟩ := hd
  have hs := h3.size
  refine ⟨⟨vd', k1, fun b hb => ?_, h3.trans (k2.below (fun b hb => (h2 b hb).1) h3.size), fun g hg => Nat.lt_of_lt_of_le (h4 g hg) k2.size⟩, fun g hg => k2.block g (h4 g hg) (fun hn => (h2 g hn).2 hg)⟩
  simp only [fpD, List.mem_cons, Option.mem_toList] at hb
  rcases hb with rfl | rfl | hb
  · exact h2 _ (by simp [fpD])
  · exact h2 _ (by simp [fpD])
  · rcases k3 b hb with h | h
    · exact h2 b (by simp [fpD, h])
    · exact ⟨by omega, fun hg => by have := h4 b hg; omega⟩
theorem Dd.call {P : Program} {f : FuncId} {args : Array Value} {x : Int} (h : Dd w0 w p gs S G) (H : ∀ vd, HasD w p gs vd S → Calls P f args w (DY w p gs vd S' x)) : Calls P f args w (DC w0 w p gs S' G (.int .i64 x)) := by
  obtain ⟨vd, h1, h2, h3, h4⟩ := h
  refine (H vd h1).mono ?_
  rintro e w' ⟨rfl, hd⟩
  exact ⟨rfl, Dd.step h1 h2 h3 h4 hd⟩
/-- a call that only looks -/
theorem Dd.look {P : Program} {f : FuncId} {args : Array Value} {v : Value} (h : Dd w0 w p gs S G) (H : Calls P f args w fun e w' => e = .returned v ∧ Below w.heap.size w w') : Calls P f args w (DC w0 w p gs S G v) :=
  H.mono fun _ _ hh => ⟨hh.1, h.new hh.2⟩
theorem dd_read (h : Dd w0 w p gs S G) (hc : S.count ≤ 1048576) (i : Int) {l : List UInt8} {x : Int} (hr : S.read i = (l, x)) : Calls Try.prog 38 #[.pointer (some ⟨p, 0, none⟩), .int .i64 i] w (DC w0 w p gs S G (.tuple #[.string ⟨l.toArray⟩, .int .i64 x])) := by
  obtain ⟨vd, h1, h2, h3, h4⟩ := h
  refine (dy_read h1 hc i hr).mono ?_
  rintro e w' ⟨rfl, hd⟩
  exact ⟨rfl, Dd.step h1 h2 h3 h4 hd⟩
theorem dd_write (h : Dd w0 w p gs S G) (hc : S.count ≤ 1048576) (i : Int) (s : ByteArray) {x : Int} (hr : S.write i (sb s) = (S', x)) : Calls Try.prog 43 #[.pointer (some ⟨p, 0, none⟩), .int .i64 i, .string s] w (DC w0 w p gs S' G (.int .i64 x)) :=
  h.call fun _ h1 => dy_write h1 hc i s hr
theorem dd_flush (h : Dd w0 w p gs S G) (hc : S.count ≤ 1048576) {x : Int} (hr : S.flush = (S', x)) : Calls Try.prog 29 #[.pointer (some ⟨p, 0, none⟩)] w (DC w0 w p gs S' G (.int .i64 x)) :=
  h.call fun _ h1 => dy_flush h1 hc hr
end

theorem dd_on {w0 w : World} {p gs : Nat} {S : Sp} {G : List Nat} (h : Dd w0 w p gs S G) : Calls Try.prog 11 #[.pointer (some ⟨p, 0, none⟩)] w fun e w' => e = .returned (.bool S.on) ∧ w = w' := by
  obtain ⟨vd, h1, _⟩ := h
  exact on_any p gs vd S w h1
theorem dd_fuse {w0 w : World} {p gs : Nat} {S S' : Sp} {G : List Nat} (h : Dd w0 w p gs S G) (n : Int) (hn : n ≤ 9223372036854775807) {x : Int} (hr : S.fuse n = (S', x)) : Calls Try.prog 10 #[.pointer (some ⟨p, 0, none⟩), .int .i64 n] w (DC w0 w p gs S' G (.int .i64 x)) :=
  h.call fun _ h1 => dy_fuse h1 n hn hr
theorem dd_rot {w0 w : World} {p gs : Nat} {S S' : Sp} {G : List Nat} (h : Dd w0 w p gs S G) (hc : S.count ≤ 1048576) (i a m : Int) {x : Int} (hr : S.rot i a m = (S', x)) : Calls Try.prog 15 #[.pointer (some ⟨p, 0, none⟩), .int .i64 i, .int .i64 a, .int .i64 m] w (DC w0 w p gs S' G (.int .i64 x)) :=
  h.call fun _ h1 => dy_rot h1 hc i a m hr
theorem dd_start {w0 w : World} {p gs : Nat} {S S' : Sp} {G : List Nat} (h : Dd w0 w p gs S G) (hc : S.count ≤ 1048576) (picks : List Int) (A : Option Addr) (l c : Nat) (hl : l = picks.length) (hrd : Rd w0 w0.heap.size A (ints picks)) (hp : ∀ x ∈ picks, x ≤ 9223372036854775807) (hpn : picks.length ≤ 9223372036854775807) {x : Int} (hr : S.start picks = (S', x)) :
    Calls Try.prog 12 #[.pointer (some ⟨p, 0, none⟩), .slice A l c] w (DC w0 w p gs S' G (.int .i64 x)) := by
  have hb := h.below
  have hgs : w0.heap.size ≤ gs := by
    obtain ⟨vd, _, h2, _⟩ := h
    exact (h2 gs (by simp [fpD])).1
  have hrd2 : Rd w w0.heap.size A (ints picks) := fun hne => by
    obtain ⟨g0, o0, e0, hg0, hc0⟩ := hrd hne
    exact ⟨g0, o0, e0, hg0, fun j u hu => (World.cell?_of_block (w := w0) (a := ⟨g0, o0 + j, none⟩) (hb.block g0 hg0)).trans (hc0 j u hu)⟩
  refine h.call fun _ h1 => dy_start h1 hc picks A l c w0.heap.size hl hrd2 hp hpn (fun hne g o e => ?_) hr
  have hne2 : ints picks ≠ [] := by
    intro q
    apply hne
    cases picks with
    | nil => rfl
    | cons y ys => simp [ints] at q
  obtain ⟨g0, o0, e0, hg0, _⟩ := hrd hne2
  rw [e0] at e
  cases e
  omega
theorem dd_steps {w0 w : World} {p gs : Nat} {S : Sp} {G : List Nat} (h : Dd w0 w p gs S G) : Calls Try.prog 22 #[.pointer (some ⟨p, 0, none⟩)] w fun e w' => e = .returned (.int .i64 (S.count : Int)) ∧ w = w' := by
  obtain ⟨vd, h1, _⟩ := h
  exact steps_any p gs vd S w h1
theorem Dd.of_dk {w w' : World} {p gs : Nat} {S : Sp} (h : Dk w.heap.size w w' p gs S) : Dd w w' p gs S [] := by
  obtain ⟨vw, h1, h2, h3, h4⟩ := h
  exact ⟨vw, h1, fun b hb => ⟨h2 b hb, by simp⟩, h3, by simp⟩
theorem w64 {x : Int} (h1 : -9223372036854775808 ≤ x) (h2 : x ≤ 9223372036854775807) : IntKind.i64.wrap x = x := by rw [IntKind.wrap_i64]; omega
end Go.Proofs.Ythlapdijnfcekaa
/-
  The walks of package grid's small functions.
-/
namespace Go.Proofs.Ythlapdijnfcekaa
open Go.RowKit
set_option maxRecDepth 10000

/-- a block's sum -/
def chG (i : Nat) (b : List UInt8) : Int := ((chainOf (BitVec.ofNat 64 i) b).toNat : Int)
theorem isArea_yes (a : Nat) (h : a ≤ 1) (w : World) : Calls Try.prog 26 #[.int .i64 (a : Int)] w fun e w' => e = .returned (.bool true) ∧ w = w' := by
  have h0 : (0 : Int) ≤ (a : Int) := by omega
  have h1 : (a : Int) ≤ 1 := by omega
  go_enter Try.func26, Try.ntmps26
  go_wp2_with fail
  go_ret
  exact ⟨rfl, rfl⟩
theorem isBlock_yes (a : Nat) (h : a < 6) (w : World) : Calls Try.prog 37 #[.int .i64 (a : Int)] w fun e w' => e = .returned (.bool true) ∧ w = w' := by
  have h0 : (0 : Int) ≤ (a : Int) := by omega
  have h1 : (a : Int) < 6 := by omega
  go_enter Try.func37, Try.ntmps37
  go_wp2_with fail
  go_ret
  exact ⟨rfl, rfl⟩
theorem sectorOf_any (a i : Nat) (h : a ≤ 1) (hi : i ≤ 64) (w : World) : Calls Try.prog 28 #[.int .i64 (a : Int), .int .i64 (i : Int)] w fun e w' => e = .returned (.int .i64 ((20 + 6 * a + i : Nat) : Int)) ∧ w = w' := by
  have e1 : IntKind.i64.wrap (6 * (a : Int)) = 6 * (a : Int) := w64 (by omega) (by omega)
  have e2 : IntKind.i64.wrap (20 + 6 * (a : Int)) = 20 + 6 * (a : Int) := w64 (by omega) (by omega)
  have e3 : IntKind.i64.wrap (20 + 6 * (a : Int) + (i : Int)) = ((20 + 6 * a + i : Nat) : Int) := by rw [w64 (by omega) (by omega)]; omega
  go_enter Try.func28, Try.ntmps28
  go_wp2_with fail
  go_ret
  exact ⟨rfl, rfl⟩
theorem blocksOf_any (n : Nat) (h : n ≤ 1048576) (w : World) : Calls Try.prog 23 #[.int .i64 (n : Int)] w fun e w' => e = .returned (.int .i64 (cntG n : Int)) ∧ w = w' := by
  have e1 : IntKind.i64.wrap ((n : Int) + 320) = (n : Int) + 320 := w64 (by omega) (by omega)
  have e2 : IntKind.i64.wrap ((n : Int) + 320 - 1) = (n : Int) + 319 := by rw [w64 (by omega) (by omega)]; omega
  have e3 : ((n : Int) + 319).tdiv 320 = (cntG n : Int) := by rw [Int.tdiv_eq_ediv_of_nonneg (by omega)]; unfold cntG; omega
  have e4 : IntKind.i64.wrap (cntG n : Int) = (cntG n : Int) := w64 (by omega) (by unfold cntG; omega)
  go_enter Try.func23, Try.ntmps23
  go_wp2_with fail
  go_ret
  exact ⟨rfl, rfl⟩
theorem bytesOf_any (n i : Nat) (h : n ≤ 1048576) (hi : 320 * i ≤ n) (w : World) : Calls Try.prog 33 #[.int .i64 (n : Int), .int .i64 (i : Int)] w fun e w' => e = .returned (.int .i64 (wantG n i : Int)) ∧ w = w' := by
  have e1 : IntKind.i64.wrap ((i : Int) * 320) = (i : Int) * 320 := w64 (by omega) (by omega)
  have e2 : IntKind.i64.wrap ((n : Int) - (i : Int) * 320) = (n : Int) - (i : Int) * 320 := w64 (by omega) (by omega)
  by_cases hq : (n : Int) - (i : Int) * 320 ≤ 320
  · have e3 : (n : Int) - (i : Int) * 320 = (wantG n i : Int) := by unfold wantG; omega
    have H3 := hid e3
    clear e3
    go_enter Try.func33, Try.ntmps33
    go_wp2_with fail
    go_ret
    exact ⟨by rw [← H3.out]; rfl, rfl⟩
  · have e3 : (320 : Int) = (wantG n i : Int) := by unfold wantG; omega
    have H3 := hid e3
    clear e3
    go_enter Try.func33, Try.ntmps33
    go_wp2_with fail
    go_ret
    exact ⟨by rw [← H3.out]; rfl, rfl⟩
theorem extract_piece (s : ByteArray) (i : Nat) : s.extract (320 * i) (320 * i + min 320 (s.size - 320 * i)) = ⟨(pieceG (sb s) i).toArray⟩ := by
  have e1 : sb (s.extract (320 * i) (320 * i + min 320 (s.size - 320 * i))) = pieceG (sb s) i := by
    have e2 : sb (s.extract (320 * i) (320 * i + min 320 (s.size - 320 * i))) = ((sb s).drop (320 * i)).take (320 * i + min 320 (s.size - 320 * i) - 320 * i) := by simp [sb]
    rw [e2, Nat.add_sub_cancel_left]
    unfold pieceG
    have hl : ((sb s).drop (320 * i)).length = s.size - 320 * i := by rw [List.length_drop, sb_len]
    by_cases q : 320 ≤ s.size - 320 * i
    · rw [Nat.min_eq_left q]
    · rw [Nat.min_eq_right (by omega), List.take_of_length_le (by omega), List.take_of_length_le (by omega)]
  rw [← e1]
  rfl
theorem sumOf_any (i : Nat) (hi : i < 6) (s : ByteArray) (hs : s.size ≤ 1048576) (w : World) : Calls Try.prog 24 #[.int .i64 (i : Int), .string s] w (VE w (.int .u64 (chG i (sb s)))) := by
  have HC : Hid (Calls Try.prog 41 #[.int .u64 (i : Int), .string s] w (VE w (.int .u64 (chG i (sb s))))) := hid (by
    have h := chain_calls (BitVec.ofNat 64 i) s w (by omega)
    rw [show ((BitVec.ofNat 64 i).toNat : Int) = (i : Int) by rw [BitVec.toNat_ofNat]; omega] at h
    exact h)
  generalize chG i (sb s) = x at *
  have e1 : IntKind.u64.wrap (i : Int) = (i : Int) := by rw [IntKind.wrap_u64]; omega
  go_enter Try.func24, Try.ntmps24
  go_wp2_with (go_at_call 41; refine HC.out.mono ?_; rintro e w1 ⟨rfl, h1⟩)
  go_ret
  exact ⟨rfl, h1⟩
theorem piece_any (s : ByteArray) (i : Nat) (hs : s.size ≤ 1048576) (hi : i < cntG s.size) (w : World) : Calls Try.prog 25 #[.string s, .int .i64 (i : Int)] w fun e w' => e = .returned (.string ⟨(pieceG (sb s) i).toArray⟩) ∧ w = w' := by
  have hc : cntG s.size = (s.size + 319) / 320 := rfl
  have e1 : IntKind.i64.wrap ((i : Int) * 320) = ((320 * i : Nat) : Int) := by rw [w64 (by omega) (by omega)]; omega
  have hw : wantG s.size i = min 320 (s.size - 320 * i) := rfl
  have e2 : IntKind.i64.wrap (((320 * i : Nat) : Int) + (wantG s.size i : Int)) = ((320 * i + wantG s.size i : Nat) : Int) := by rw [w64 (by omega) (by omega)]; omega
  have HB := hid (bytesOf_any s.size i hs (by omega) w)
  go_enter Try.func25, Try.ntmps25
  go_wp2_with (go_at_call 33; refine HB.out.mono ?_; rintro e w1 ⟨rfl, rfl⟩)
  go_ret
  exact ⟨by rw [← extract_piece]; rfl, rfl⟩
end Go.Proofs.Ythlapdijnfcekaa
/-
  The walks of package grid's lay, Write, Put.
-/
namespace Go.Proofs.Ythlapdijnfcekaa
open Go.RowKit
set_option maxRecDepth 10000

/-- what lay does -/
def layG (S : Sp) (i : Int) (b : List UInt8) : Sp × Int := if (S.read i).2 ≠ 0 then (S, (S.read i).2) else S.write i (layS (nextS (S.read i).1) b)
theorem laysG_step {S : Sp} {B : Nat → List UInt8} {base k : Nat} (h : (laysG S B base k).2 = 0) : laysG S B base (k + 1) = layG (laysG S B base k).1 ((base + k : Nat) : Int) (B k) := by
  rw [laysG, if_neg (by simpa using h)]
  rfl
theorem laysG_stop (S : Sp) (B : Nat → List UInt8) (base j : Nat) (h : (laysG S B base j).2 ≠ 0) : ∀ m, laysG S B base (j + m) = laysG S B base j
  | 0 => rfl
  | m + 1 => by
    rw [← Nat.add_assoc, laysG, laysG_stop S B base j h m, if_pos h]
theorem Sp.goes_count (S : Sp) : S.goes.1.count ≤ S.count + 1 := by
  unfold Sp.goes
  split
  · simp
  · split <;> simp
theorem Sp.write_count (S : Sp) (i : Int) (l : List UInt8) : (S.write i l).1.count ≤ S.count + 1 := by
  have := S.goes_count
  unfold Sp.write
  split
  · simp
  · split <;> simpa using this
theorem Sp.flush_count (S : Sp) : S.flush.1.count ≤ S.count + 1 := by
  have := S.goes_count
  unfold Sp.flush
  split <;> simpa using this
theorem layG_count (S : Sp) (i : Int) (b : List UInt8) : (layG S i b).1.count ≤ S.count + 1 := by
  unfold layG
  split
  · simp
  · exact S.write_count _ _
theorem laysG_count (S : Sp) (B : Nat → List UInt8) (base : Nat) : ∀ k, (laysG S B base k).1.count ≤ S.count + k
  | 0 => Nat.le_refl _
  | k + 1 => by
    have h1 := laysG_count S B base k
    by_cases h : (laysG S B base k).2 = 0
    · have h2 := layG_count (laysG S B base k).1 ((base + k : Nat) : Int) (B k)
      rw [laysG_step h]
      omega
    · rw [laysG, if_pos h]
      omega
theorem writeG_count (S : Sp) (B : Nat → List UInt8) (base m : Nat) : (writeG S B base m).1.count ≤ S.count + m + 1 := by
  have h1 := laysG_count S B base m
  have h2 := (laysG S B base m).1.flush_count
  unfold writeG
  split <;> omega
theorem read_len (S : Sp) (h : S.WF) (i : Int) : (S.read i).1.length ≤ 384 := by
  unfold Sp.read
  split
  · simp
  · split
    · simp
    · rename_i hi _
      have hi' : S.is i := Decidable.not_not.1 hi
      have hl : i.toNat < S.secs.length := by have := hi'.1; have := hi'.2; omega
      rw [List.getD_eq_getElem?_getD, List.getElem?_eq_getElem hl]
      rcases newest_get S.way i.toNat S.secs[i.toNat].lasts with ⟨_, h2, _⟩ | ⟨k, _, hk, _, h2⟩
      · show (lastw S.way i.toNat S.secs[i.toNat].lasts).length ≤ 384
        rw [h2, h.len _ (List.getElem_mem hl)]
        exact Nat.le_refl _
      · show (lastw S.way i.toNat S.secs[i.toNat].lasts).length ≤ 384
        rw [← h2, (h.way _ (List.getElem_mem hk)).2]
        exact Nat.le_refl _
section
variable {w0 w : World} {p gs : Nat} {S : Sp} {G : List Nat}
set_option maxHeartbeats 1000000 in
theorem glay_any (h : Dd w0 w p gs S G) (hc : S.count ≤ 1040000) (i : Int) (b : ByteArray) (hb : b.size ≤ 376) :
    Calls Try.prog 27 #[.pointer (some ⟨p, 0, none⟩), .int .i64 i, .string b] w (DC w0 w p gs (layG S i (sb b)).1 G (.int .i64 (layG S i (sb b)).2)) := by
  have HR := hid (dd_read h (by omega) i (l := (S.read i).1) (x := (S.read i).2) rfl)
  have hlen := read_len S h.wf i
  have HS : Hid (∀ W, Calls Try.prog 42 #[.string ⟨(S.read i).1.toArray⟩, .string b] W fun e w' => e = .returned (.tuple #[.string ⟨(layS (nextS (S.read i).1) (sb b)).toArray⟩, .int .i64 0]) ∧ Below W.heap.size W w') := hid fun W => by
    have hsz : (⟨(S.read i).1.toArray⟩ : ByteArray).size = (S.read i).1.length := by simp [ByteArray.size]
    have h1 := seal_calls ⟨(S.read i).1.toArray⟩ b W (by omega)
    have e : sealS (sb ⟨(S.read i).1.toArray⟩) (sb b) = (layS (nextS (S.read i).1) (sb b), 0) := by
      unfold sealS
      rw [if_neg (by rw [sb_len]; omega), sb_mk]
    rw [e] at h1
    exact h1
  have HW : Hid (∀ W, Dd w0 W p gs S G → Calls Try.prog 43 #[.pointer (some ⟨p, 0, none⟩), .int .i64 i, .string ⟨(layS (nextS (S.read i).1) (sb b)).toArray⟩] W (DC w0 W p gs (S.write i (layS (nextS (S.read i).1) (sb b))).1 G (.int .i64 (S.write i (layS (nextS (S.read i).1) (sb b))).2))) := hid fun W hW => dd_write hW (by omega) i _ (by rw [sb_mk])
  unfold layG
  generalize layS (nextS (S.read i).1) (sb b) = t at *
  generalize S.read i = R at *
  obtain ⟨l, x⟩ := R
  simp only at *
  clear h hc hlen
  by_cases hx : x = 0
  · subst hx
    rw [if_neg (by simp)]
    go_enter Try.func27, Try.ntmps27
    go_wp2_with (first
      | (go_at_call 38; refine HR.out.mono ?_; rintro e w1 ⟨rfl, h1, k1⟩; have H1 := hid h1; have K1 := hid k1; clear h1 k1)
      | (go_at_call 42; refine (HS.out _).mono ?_; rintro e w2 ⟨rfl, hb2⟩; have H2 := hid (H1.out.new hb2); clear hb2)
      | (go_at_call 43; refine (HW.out _ H2.out.1).mono ?_; rintro e w3 ⟨rfl, h3, k3⟩; have H3 := hid h3; have K3 := hid k3; clear h3 k3))
    go_ret
    exact ⟨rfl, H3.out, K1.out.trans (H2.out.2.trans K3.out)⟩
  · have hx2 : (x != 0) = true := by simpa using hx
    rw [if_pos hx]
    clear hx
    go_enter Try.func27, Try.ntmps27
    go_wp2_with (go_at_call 38; refine HR.out.mono ?_; rintro e w1 ⟨rfl, h1, k1⟩; have H1 := hid h1; have K1 := hid k1; clear h1 k1)
    go_ret
    exact ⟨rfl, H1.out, K1.out⟩
set_option maxHeartbeats 2000000 in
theorem gwrite_any (h : Dd w0 w p gs S G) (hc : S.count ≤ 1000000) (a : Nat) (ha : a ≤ 1) (s : ByteArray) (hs : s.size ≤ 1920) :
    Calls Try.prog 9 #[.pointer (some ⟨p, 0, none⟩), .int .i64 (a : Int), .string s] w (DC w0 w p gs (writeG S (pieceG (sb s)) (20 + 6 * a) (cntG s.size)).1 G (.int .i64 (writeG S (pieceG (sb s)) (20 + 6 * a) (cntG s.size)).2)) := by
  have HA := hid (fun W => isArea_yes a ha W)
  have HBk := hid (fun W => blocksOf_any s.size (by omega) W)
  have hm : cntG s.size ≤ 6 := by unfold cntG; omega
  have HSe : Hid (∀ W (k : Nat), k < cntG s.size → Calls Try.prog 28 #[.int .i64 (a : Int), .int .i64 (k : Int)] W fun e w' => e = .returned (.int .i64 ((20 + 6 * a + k : Nat) : Int)) ∧ W = w') := hid fun W k hk => sectorOf_any a k ha (by omega) W
  have HPc : Hid (∀ W (k : Nat), k < cntG s.size → Calls Try.prog 25 #[.string s, .int .i64 (k : Int)] W fun e w' => e = .returned (.string ⟨(pieceG (sb s) k).toArray⟩) ∧ W = w') := hid fun W k hk => piece_any s k (by omega) hk W
  have HLy : Hid (∀ W (k : Nat) S', Dd w0 W p gs S' G → S'.count ≤ 1040000 → Calls Try.prog 27 #[.pointer (some ⟨p, 0, none⟩), .int .i64 ((20 + 6 * a + k : Nat) : Int), .string ⟨(pieceG (sb s) k).toArray⟩] W (DC w0 W p gs (layG S' ((20 + 6 * a + k : Nat) : Int) (pieceG (sb s) k)).1 G (.int .i64 (layG S' ((20 + 6 * a + k : Nat) : Int) (pieceG (sb s) k)).2))) := hid fun W k S' hW hC => by
    have hsz : (⟨(pieceG (sb s) k).toArray⟩ : ByteArray).size = (pieceG (sb s) k).length := by simp [ByteArray.size]
    have := glay_any hW hC ((20 + 6 * a + k : Nat) : Int) ⟨(pieceG (sb s) k).toArray⟩ (by rw [hsz]; exact Nat.le_trans (piece_le _ _) (by decide))
    rw [sb_mk] at this
    exact this
  have HFl : Hid (∀ W S', Dd w0 W p gs S' G → S'.count ≤ 1040000 → Calls Try.prog 29 #[.pointer (some ⟨p, 0, none⟩)] W (DC w0 W p gs S'.flush.1 G (.int .i64 S'.flush.2))) := hid fun W S' hW hC => dd_flush hW (by omega) rfl
  have HCn : Hid (∀ k, (laysG S (pieceG (sb s)) (20 + 6 * a) k).1.count ≤ S.count + k) := hid (laysG_count S _ _)
  have HST : Hid (∀ j m, (laysG S (pieceG (sb s)) (20 + 6 * a) j).2 ≠ 0 → laysG S (pieceG (sb s)) (20 + 6 * a) (j + m) = laysG S (pieceG (sb s)) (20 + 6 * a) j) := hid fun j m hj => laysG_stop S _ _ j hj m
  have HSp : Hid (∀ k, (laysG S (pieceG (sb s)) (20 + 6 * a) k).2 = 0 → laysG S (pieceG (sb s)) (20 + 6 * a) (k + 1) = layG (laysG S (pieceG (sb s)) (20 + 6 * a) k).1 ((20 + 6 * a + k : Nat) : Int) (pieceG (sb s) k)) := hid fun k hk => laysG_step hk
  have hsl : ¬ (1920 : Int) < (s.size : Int) := by omega
  have HH := hid h
  have HW0 : Hid ((laysG S (pieceG (sb s)) (20 + 6 * a) (cntG s.size)).2 = 0 → writeG S (pieceG (sb s)) (20 + 6 * a) (cntG s.size) = (laysG S (pieceG (sb s)) (20 + 6 * a) (cntG s.size)).1.flush) := hid fun q => by unfold writeG; rw [if_neg (by simpa using q)]
  have HW1 : Hid ((laysG S (pieceG (sb s)) (20 + 6 * a) (cntG s.size)).2 ≠ 0 → writeG S (pieceG (sb s)) (20 + 6 * a) (cntG s.size) = laysG S (pieceG (sb s)) (20 + 6 * a) (cntG s.size)) := hid fun q => by unfold writeG; rw [if_pos q]
  generalize writeG S (pieceG (sb s)) (20 + 6 * a) (cntG s.size) = R at *
  generalize pieceG (sb s) = B at *
  generalize cntG s.size = m at *
  generalize hL : laysG S B (20 + 6 * a) = L at *
  have HL0 : Hid (L 0 = (S, 0)) := hid (by rw [← hL]; rfl)
  clear h hL
  go_enter Try.func9, Try.ntmps9
  go_wp2_with (first
    | (go_at_call 26; refine (HA.out _).mono ?_; rintro e w1 ⟨rfl, rfl⟩)
    | (go_at_call 23; refine (HBk.out _).mono ?_; rintro e w1 ⟨rfl, rfl⟩))
  go_loopw [18] (fun i wr => ∃ k : Nat, k ≤ m ∧ i = .int .i64 (k : Int) ∧ Hid ((L k).2 = 0) ∧ Dd w0 wr p gs (L k).1 G ∧ Ek w wr G) (fun i _ => m - (intOf i).toNat)
  case atStart => exact ⟨0, Nat.zero_le _, rfl, hid (by rw [HL0.out]), by rw [HL0.out]; exact HH.out, Ek.refl _ _⟩
  case round =>
    obtain ⟨k, hk, rfl, hz, hd, hek⟩ := hrel
    have HD := hid hd
    have HE := hid hek
    have hcn := HCn.out k
    have hck : (L k).1.count ≤ 1040000 := by omega
    clear hd hek hcn
    by_cases hlt : k < m
    · have hl1 := HSe.out wr k hlt
      have hl2 := HPc.out wr k hlt
      have hl3 := HLy.out wr k _ HD.out hck
      have hsp := HSp.out k hz.out
      rw [← hsp] at hl3
      have H1 := hid hl1
      have H2 := hid hl2
      have H3 := hid hl3
      have hli : (k : Int) < (m : Int) := by omega
      clear hl1 hl2 hl3 hsp hck
      by_cases herr : (L (k + 1)).2 = 0
      · rw [herr] at H3
        go_wp2_with (first
          | (go_at_call 28; refine H1.out.mono ?_; rintro e w1 ⟨rfl, rfl⟩)
          | (go_at_call 25; refine H2.out.mono ?_; rintro e w1 ⟨rfl, rfl⟩)
          | (go_at_call 27; refine H3.out.mono ?_; rintro e w1 ⟨rfl, h1, k1⟩; have HD1 := hid h1; have HE1 := hid k1; clear h1 k1))
        go_roundw
        case rel => exact ⟨k + 1, by omega, by go_num, hid herr, HD1.out, HE.out.trans HE1.out⟩
        case measure => simp [intOf]; omega
      · have hst := HST.out (k + 1) (m - (k + 1)) herr
        rw [show k + 1 + (m - (k + 1)) = m by omega] at hst
        have hR := HW1.out (by rw [hst]; exact herr)
        rw [hst] at hR
        rw [hR]
        clear HW0 HW1 hR
        have hx2 : ((L (k + 1)).2 != 0) = true := by simpa using herr
        generalize (L (k + 1)).2 = x at *
        clear herr hst
        go_wp2_with (first
          | (go_at_call 28; refine H1.out.mono ?_; rintro e w1 ⟨rfl, rfl⟩)
          | (go_at_call 25; refine H2.out.mono ?_; rintro e w1 ⟨rfl, rfl⟩)
          | (go_at_call 27; refine H3.out.mono ?_; rintro e w1 ⟨rfl, h1, k1⟩; have HD1 := hid h1; have HE1 := hid k1; clear h1 k1))
        go_ret
        exact ⟨rfl, HD1.out, HE.out.trans HE1.out⟩
    · obtain rfl : k = m := by omega
      have h3 := hid (HFl.out wr _ HD.out hck)
      have hR := hid (HW0.out hz.out)
      clear hck HW0 HW1
      go_wp2_with (go_at_call 29; refine h3.out.mono ?_; rintro e w1 ⟨rfl, h1, k1⟩; have HD1 := hid h1; have HE1 := hid k1; clear h1 k1)
      go_ret
      exact ⟨by rw [hR.out]; rfl, by rw [hR.out]; exact HD1.out, HE.out.trans HE1.out⟩
theorem gwrite_long (h : Dd w0 w p gs S G) (a : Nat) (ha : a ≤ 1) (s : ByteArray) (hs : 1920 < s.size) :
    Calls Try.prog 9 #[.pointer (some ⟨p, 0, none⟩), .int .i64 (a : Int), .string s] w (DC w0 w p gs S G (.int .i64 5)) := by
  have HA := hid (fun W => isArea_yes a ha W)
  have hsl : (1920 : Int) < (s.size : Int) := by omega
  have HH := hid h
  clear h
  go_enter Try.func9, Try.ntmps9
  go_wp2_with (go_at_call 26; refine (HA.out _).mono ?_; rintro e w1 ⟨rfl, rfl⟩)
  go_ret
  exact ⟨rfl, HH.out, Ek.refl _ _⟩
theorem put_eq (S : Sp) (b : List UInt8) (base : Nat) : writeG S (fun _ => b) base 1 = if (layG S (base : Int) b).2 ≠ 0 then layG S (base : Int) b else (layG S (base : Int) b).1.flush := by
  have e : laysG S (fun _ => b) base 1 = layG S (base : Int) b := laysG_step (S := S) (B := fun _ => b) (base := base) (k := 0) rfl
  unfold writeG
  rw [e]
set_option maxHeartbeats 1000000 in
theorem gput_any (h : Dd w0 w p gs S G) (hc : S.count ≤ 1000000) (a i : Nat) (ha : a ≤ 1) (hi : i < 6) (b : ByteArray) (hb : b.size ≤ 320) :
    Calls Try.prog 17 #[.pointer (some ⟨p, 0, none⟩), .int .i64 (a : Int), .int .i64 (i : Int), .string b] w (DC w0 w p gs (writeG S (fun _ => sb b) (20 + 6 * a + i) 1).1 G (.int .i64 (writeG S (fun _ => sb b) (20 + 6 * a + i) 1).2)) := by
  have HA := hid (fun W => isArea_yes a ha W)
  have HI := hid (fun W => isBlock_yes i hi W)
  have HSe := hid (fun W => sectorOf_any a i ha (by omega) W)
  have HLy := hid (glay_any h (by omega) ((20 + 6 * a + i : Nat) : Int) b (by omega))
  have hcn := layG_count S ((20 + 6 * a + i : Nat) : Int) (sb b)
  have HFl : Hid (∀ W, Dd w0 W p gs (layG S ((20 + 6 * a + i : Nat) : Int) (sb b)).1 G → Calls Try.prog 29 #[.pointer (some ⟨p, 0, none⟩)] W (DC w0 W p gs (layG S ((20 + 6 * a + i : Nat) : Int) (sb b)).1.flush.1 G (.int .i64 (layG S ((20 + 6 * a + i : Nat) : Int) (sb b)).1.flush.2))) := hid fun W hW => dd_flush hW (by omega) rfl
  have hsl : ¬ (320 : Int) < (b.size : Int) := by omega
  rw [put_eq]
  generalize ((20 + 6 * a + i : Nat) : Int) = n at *
  generalize layG S n (sb b) = R at *
  obtain ⟨S1, x⟩ := R
  simp only at *
  clear h hcn hc
  by_cases hx : x = 0
  · subst hx
    rw [if_neg (by simp)]
    go_enter Try.func17, Try.ntmps17
    go_wp2_with (first
      | (go_at_call 26; refine (HA.out _).mono ?_; rintro e w1 ⟨rfl, rfl⟩)
      | (go_at_call 37; refine (HI.out _).mono ?_; rintro e w1 ⟨rfl, rfl⟩)
      | (go_at_call 28; refine (HSe.out _).mono ?_; rintro e w1 ⟨rfl, rfl⟩)
      | (go_at_call 27; refine HLy.out.mono ?_; rintro e w1 ⟨rfl, h1, k1⟩; have H1 := hid h1; have K1 := hid k1; clear h1 k1)
      | (go_at_call 29; refine (HFl.out _ H1.out).mono ?_; rintro e w2 ⟨rfl, h2, k2⟩; have H2 := hid h2; have K2 := hid k2; clear h2 k2))
    go_ret
    exact ⟨rfl, H2.out, K1.out.trans K2.out⟩
  · have hx2 : (x != 0) = true := by simpa using hx
    rw [if_pos hx]
    clear hx
    go_enter Try.func17, Try.ntmps17
    go_wp2_with (first
      | (go_at_call 26; refine (HA.out _).mono ?_; rintro e w1 ⟨rfl, rfl⟩)
      | (go_at_call 37; refine (HI.out _).mono ?_; rintro e w1 ⟨rfl, rfl⟩)
      | (go_at_call 28; refine (HSe.out _).mono ?_; rintro e w1 ⟨rfl, rfl⟩)
      | (go_at_call 27; refine HLy.out.mono ?_; rintro e w1 ⟨rfl, h1, k1⟩; have H1 := hid h1; have K1 := hid k1; clear h1 k1))
    go_ret
    exact ⟨rfl, H1.out, K1.out⟩
end
end Go.Proofs.Ythlapdijnfcekaa
/-
  The walk of package grid's Block.
-/
namespace Go.Proofs.Ythlapdijnfcekaa
open Go.RowKit
set_option maxRecDepth 10000

section
variable {w0 w : World} {p gs : Nat} {S : Sp} {G : List Nat}
theorem dd_readB (h : Dd w0 w p gs S G) (hc : S.count ≤ 1048576) (i : Int) {l : List UInt8} {x : Int} (hr : S.read i = (l, x)) : Calls Try.prog 38 #[.pointer (some ⟨p, 0, none⟩), .int .i64 i] w fun e w' => e = .returned (.tuple #[.string ⟨l.toArray⟩, .int .i64 x]) ∧ Below w.heap.size w w' := by
  obtain ⟨vd, h1, _⟩ := h
  refine (read_any p gs vd S i w h1 hc).mono ?_
  rw [hr]
  rintro e w' ⟨rfl, n, rfl⟩
  exact ⟨rfl, ⟨rfl, rfl, rfl, Nat.le_refl _, fun _ _ => rfl⟩⟩
set_option maxHeartbeats 2000000 in
theorem gblock_any (h : Dd w0 w p gs S G) (hc : S.count ≤ 1000000) (a i : Nat) (ha : a ≤ 1) (hi : i < 6) (l : List UInt8) (hr : S.read ((20 + 6 * a + i : Nat) : Int) = (l, 0)) (sum : Int) :
    Calls Try.prog 19 #[.pointer (some ⟨p, 0, none⟩), .int .i64 (a : Int), .int .i64 (i : Int), .int .u64 sum] w fun e w' => e = .returned (.tuple #[.string ⟨(blockS chG l i sum).1.toArray⟩, .bool (blockS chG l i sum).2, .int .i64 0]) ∧ Below w.heap.size w w' := by
  have HA := hid (fun W => isArea_yes a ha W)
  have HI := hid (fun W => isBlock_yes i hi W)
  have HSe := hid (fun W => sectorOf_any a i ha (by omega) W)
  have HR := hid (dd_readB h (by omega) _ hr)
  have HO : Hid (∀ W, Calls Try.prog 39 #[.string ⟨l.toArray⟩] W fun e w' => e = .returned (.tuple #[.string ⟨(openS l).1.toArray⟩, .bool (openS l).2]) ∧ Below W.heap.size W w') := hid fun W => by
    have h1 := open_calls ⟨l.toArray⟩ W
    rw [sb_mk] at h1
    exact h1
  have HC : Hid ((openS l).1.length ≤ 320 → ∀ W, Calls Try.prog 24 #[.int .i64 (i : Int), .string ⟨(openS l).1.toArray⟩] W (VE W (.int .u64 (chG i (openS l).1)))) := hid fun hl W => by
    have hsz : (⟨(openS l).1.toArray⟩ : ByteArray).size = (openS l).1.length := by simp [ByteArray.size]
    have h1 := sumOf_any i hi ⟨(openS l).1.toArray⟩ (by omega) W
    rw [sb_mk] at h1
    exact h1
  unfold blockS
  have HSZ : Hid ((⟨(openS l).1.toArray⟩ : ByteArray).size = (openS l).1.length) := hid (by simp [ByteArray.size])
  generalize chG i (openS l).1 = c at *
  generalize openS l = R at *
  obtain ⟨t, ok⟩ := R
  simp only at *
  generalize htb : (⟨t.toArray⟩ : ByteArray) = tb at *
  have HTB := hid htb
  clear htb
  generalize ((20 + 6 * a + i : Nat) : Int) = n at *
  have hsz := HSZ.out
  clear h hc hr
  cases ok with
  | false =>
    rw [if_pos (.inl rfl)]
    go_enter Try.func19, Try.ntmps19
    go_wp2_with (first
      | (go_at_call 26; refine (HA.out _).mono ?_; rintro e w1 ⟨rfl, rfl⟩)
      | (go_at_call 37; refine (HI.out _).mono ?_; rintro e w1 ⟨rfl, rfl⟩)
      | (go_at_call 28; refine (HSe.out _).mono ?_; rintro e w1 ⟨rfl, rfl⟩)
      | (go_at_call 38; refine HR.out.mono ?_; rintro e w1 ⟨rfl, h1⟩; have H1 := hid h1; clear h1)
      | (go_at_call 39; refine (HO.out _).mono ?_; rintro e w2 ⟨rfl, hb2⟩; have H2 := hid (H1.out.trans (hb2.mono H1.out.size)); clear hb2))
    go_ret3
    exact ⟨rfl, H2.out⟩
  | true =>
    by_cases hl : t.length ≤ 320
    · have hli : ¬ (320 : Int) < (tb.size : Int) := by omega
      have HC2 := hid (HC.out hl)
      clear HC
      by_cases hs : c = sum
      · subst hs
        rw [if_neg (by rintro (q | q | q); · cases q
                       · omega
                       · exact q rfl)]
        go_enter Try.func19, Try.ntmps19
        go_wp2_with (first
          | (go_at_call 26; refine (HA.out _).mono ?_; rintro e w1 ⟨rfl, rfl⟩)
          | (go_at_call 37; refine (HI.out _).mono ?_; rintro e w1 ⟨rfl, rfl⟩)
          | (go_at_call 28; refine (HSe.out _).mono ?_; rintro e w1 ⟨rfl, rfl⟩)
          | (go_at_call 38; refine HR.out.mono ?_; rintro e w1 ⟨rfl, h1⟩; have H1 := hid h1; clear h1)
          | (go_at_call 39; refine (HO.out _).mono ?_; rintro e w2 ⟨rfl, hb2⟩; have H2 := hid (H1.out.trans (hb2.mono H1.out.size)); clear hb2)
          | (go_at_call 24; refine (HC2.out _).mono ?_; rintro e w3 ⟨rfl, hb3⟩; have H3 := hid (H2.out.trans (hb3.mono H2.out.size)); clear hb3))
        go_ret3
        exact ⟨by rw [HTB.out]; rfl, H3.out⟩
      · have hs2 : (c != sum) = true := by simpa using hs
        rw [if_pos (.inr (.inr hs))]
        clear hs
        go_enter Try.func19, Try.ntmps19
        go_wp2_with (first
          | (go_at_call 26; refine (HA.out _).mono ?_; rintro e w1 ⟨rfl, rfl⟩)
          | (go_at_call 37; refine (HI.out _).mono ?_; rintro e w1 ⟨rfl, rfl⟩)
          | (go_at_call 28; refine (HSe.out _).mono ?_; rintro e w1 ⟨rfl, rfl⟩)
          | (go_at_call 38; refine HR.out.mono ?_; rintro e w1 ⟨rfl, h1⟩; have H1 := hid h1; clear h1)
          | (go_at_call 39; refine (HO.out _).mono ?_; rintro e w2 ⟨rfl, hb2⟩; have H2 := hid (H1.out.trans (hb2.mono H1.out.size)); clear hb2)
          | (go_at_call 24; refine (HC2.out _).mono ?_; rintro e w3 ⟨rfl, hb3⟩; have H3 := hid (H2.out.trans (hb3.mono H2.out.size)); clear hb3))
        go_ret3
        exact ⟨rfl, H3.out⟩
    · have hli : (320 : Int) < (tb.size : Int) := by omega
      rw [if_pos (.inr (.inl (by omega)))]
      clear HC
      go_enter Try.func19, Try.ntmps19
      go_wp2_with (first
        | (go_at_call 26; refine (HA.out _).mono ?_; rintro e w1 ⟨rfl, rfl⟩)
        | (go_at_call 37; refine (HI.out _).mono ?_; rintro e w1 ⟨rfl, rfl⟩)
        | (go_at_call 28; refine (HSe.out _).mono ?_; rintro e w1 ⟨rfl, rfl⟩)
        | (go_at_call 38; refine HR.out.mono ?_; rintro e w1 ⟨rfl, h1⟩; have H1 := hid h1; clear h1)
        | (go_at_call 39; refine (HO.out _).mono ?_; rintro e w2 ⟨rfl, hb2⟩; have H2 := hid (H1.out.trans (hb2.mono H1.out.size)); clear hb2))
      go_ret3
      exact ⟨rfl, H2.out⟩
end
end Go.Proofs.Ythlapdijnfcekaa
