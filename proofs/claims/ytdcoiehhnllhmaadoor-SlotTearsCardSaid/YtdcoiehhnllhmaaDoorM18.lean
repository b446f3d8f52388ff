/-
  The walk of Mix: a text's first bytes, and another one's others.
-/
import Derived.Test.YtdcoiehhnllhmaaDoorM03
import Derived.Test.YtdcoiehhnllhmaaDoorM17
namespace Go.Proofs.YtdcoiehhnllhmaaDoor
open Go.RowKit

def mixS (a b : List UInt8) (c : Nat) : List UInt8 := a.take c ++ b.drop c
theorem mixS_len (a b : List UInt8) (c : Nat) (ha : a.length = 384) (hb : b.length = 384) (hc : c ≤ 384) : (mixS a b c).length = 384 := by
  simp [mixS, ha, hb]; omega
theorem mixS_lo (a b : List UInt8) (c k : Nat) (ha : a.length = 384) (hk : k < c) (hc : c ≤ 384) : (mixS a b c)[k]? = a[k]? := by
  unfold mixS
  rw [List.getElem?_append_left (by simp [ha]; omega), List.getElem?_take, if_pos hk]
theorem mixS_hi (a b : List UInt8) (c k : Nat) (ha : a.length = 384) (hk : c ≤ k) (hc : c ≤ 384) : (mixS a b c)[k]? = b[k]? := by
  unfold mixS
  have hl : (a.take c).length = c := by simp [ha]; omega
  rw [List.getElem?_append_right (by omega), hl, List.getElem?_drop]
  congr 1
  omega
theorem take_next (m : List UInt8) (k : Nat) (x : UInt8) (h : m[k]? = some x) : m.take (k + 1) = m.take k ++ [x] := by
  obtain ⟨hk, rfl⟩ := List.getElem?_eq_some_iff.1 h
  exact List.take_succ_eq_append_getElem hk
theorem sb_at (s : ByteArray) (k : Nat) (h : k < s.size) : (sb s)[k]? = some (s[k]'h) := by
  rw [List.getElem?_eq_getElem (by rw [sb_len]; exact h)]
  rfl
set_option maxRecDepth 10000 in
set_option maxHeartbeats 1000000 in
theorem mix_any (a b : ByteArray) (c : Nat) (w : World) (ha : a.size = 384) (hb : b.size = 384) (hc : c ≤ 384) :
    Calls Tryd.prog 34 #[.string a, .string b, .int .i64 (c : Int)] w (NS w (mixS (sb a) (sb b) c)) := by
  obtain ⟨i0, hi, hz0, hz1, hz2⟩ := info_parts infoU8
  have hal : (sb a).length = 384 := by rw [sb_len]; exact ha
  have hbl : (sb b).length = 384 := by rw [sb_len]; exact hb
  have hml := mixS_len (sb a) (sb b) c hal hbl hc
  have HA := hid ha
  have HB := hid hb
  have hal' : (384 : Int) = (a.size : Int) := by omega
  clear ha hb hal'
  go_enter Tryd.func34, Tryd.ntmps34
  go_wp2_with fail
  go_loopw [7, 8] (fun out i wr => ∃ k : Nat, k ≤ 384 ∧ i = .int .i64 k ∧ wr.ownsRow w.heap.size 5 1 out k (bvs ((mixS (sb a) (sb b) c).take k)) ∧ Below w.heap.size w wr) (fun _ i _ => 384 - (intOf i).toNat)
  case atStart =>
    have h0 := World.ownsRow_lit (e := 5) (base := w.heap.size) (size := 1) w #[] 0 (Nat.le_refl _) (by decide) rfl
    exact ⟨0, by omega, rfl, by simpa [bvs] using h0, (Below.refl _ _).alloc (Nat.le_refl _) _⟩
  case round =>
    obtain ⟨k, hk, rfl, hown, hbe⟩ := hrel
    have hsz := hbe.size
    by_cases hlt : k < 384
    · have hka : k < a.size := by rw [HA.out]; exact hlt
      have hkb : k < b.size := by rw [HB.out]; exact hlt
      have hkI : (k : Int) < 384 := by omega
      have hd : decide ((k : Int) < 384) = true := by simp; omega
      by_cases hck : k < c
      · have hcI : (k : Int) < (c : Int) := by omega
        have HN := hid (take_next _ k _ ((mixS_lo (sb a) (sb b) c k hal hck hc).trans (sb_at a k hka)))
        clear hck
        go_wp2_with (with_reducible refine wpl_append rfl (.tmp 17) (.tmp 21) 57 rfl w.heap.size 5 i0 _ 1 1 Tryd.underlying57 hi hz0 hz1 hz2 rfl (by omega) _ k _ rfl (hown.alloc _) (wr.heap.size + 1) (some ⟨wr.heap.size, 0, none⟩) 1 1 [bv (a[k]'hka)] rfl ?_ ?_ ?_ ?_ ?_ ?_ ?_; intro v' w2 hown2 hb2 hg2)
        rotate_left
        · refine hid fun _ => ⟨_, _, rfl, by omega, ?_⟩
          intro j u hu
          match j, hu with
          | 0, hu => simp at hu; subst hu; simp [bv]
        · exact hid rfl
        · exact hid (by intro u hu; simp at hu; subst hu; rfl)
        · exact hid (le_maxLen (by omega))
        · exact hid (by omega)
        · exact hid (by simp; omega)
        go_roundw
        case rel =>
          refine ⟨k + 1, by omega, by go_num, ?_, (hbe.alloc hsz _).trans hb2⟩
          rw [HN.out, bvs_app]
          exact hown2
        case measure => simp [intOf]; omega
      · have hcI : (c : Int) ≤ (k : Int) := by omega
        have hdc : decide ((k : Int) < (c : Int)) = false := by simp; omega
        have HN := hid (take_next _ k _ ((mixS_hi (sb a) (sb b) c k hal (by omega) hc).trans (sb_at b k hkb)))
        clear hck
        go_wp2_with (with_reducible refine wpl_append rfl (.tmp 23) (.tmp 27) 57 rfl w.heap.size 5 i0 _ 1 1 Tryd.underlying57 hi hz0 hz1 hz2 rfl (by omega) _ k _ rfl (hown.alloc _) (wr.heap.size + 1) (some ⟨wr.heap.size, 0, none⟩) 1 1 [bv (b[k]'hkb)] rfl ?_ ?_ ?_ ?_ ?_ ?_ ?_; intro v' w2 hown2 hb2 hg2)
        rotate_left
        · refine hid fun _ => ⟨_, _, rfl, by omega, ?_⟩
          intro j u hu
          match j, hu with
          | 0, hu => simp at hu; subst hu; simp [bv]
        · exact hid rfl
        · exact hid (by intro u hu; simp at hu; subst hu; rfl)
        · exact hid (le_maxLen (by omega))
        · exact hid (by omega)
        · exact hid (by simp; omega)
        go_roundw
        case rel =>
          refine ⟨k + 1, by omega, by go_num, ?_, (hbe.alloc hsz _).trans hb2⟩
          rw [HN.out, bvs_app]
          exact hown2
        case measure => simp [intOf]; omega
    · obtain rfl : k = 384 := by omega
      obtain ⟨A, cc, rfl, hcc, hxl, hrd⟩ := own_shape hown
      rw [List.take_of_length_le (by omega)] at hrd
      have HR : Hid (Rd wr wr.heap.size A (bvs (mixS (sb a) (sb b) c))) := hid hrd
      have HL : Hid (384 = (mixS (sb a) (sb b) c).length) := hid hml.symm
      have HBE := hid hbe
      clear hrd hbe hown hxl hml
      go_wp2_with (with_reducible refine wpl_str rfl (.tmp 29) 57 9 rfl 5 Tryd.underlying57 Tryd.underlying5 Tryd.underlying9 A 384 cc rfl wr.heap.size (mixS (sb a) (sb b) c) ?_ HR HL)
      go_ret
      exact ⟨rfl, HBE.out.os, HBE.out.tape, HBE.out.output, HBE.out.size, fun k hk _ => HBE.out.block k hk⟩
end Go.Proofs.YtdcoiehhnllhmaaDoor
/-
  The disk's calls, as the laws call them: a disk of the law's own, all older memory as it was.
-/
namespace Go.Proofs.YtdcoiehhnllhmaaDoor
open Go.RowKit

/-- a disk S at p, all of its blocks from B on; below B the world is as w0 -/
def Dk (B : Nat) (w0 w : World) (p gs : Nat) (S : Sp) : Prop := ∃ vw, HasD w p gs vw S ∧ (∀ b ∈ fpD p gs vw, B ≤ b) ∧ Below B w0 w ∧ B ≤ w.heap.size
/-- an answer, and the disk -/
def DP (B : Nat) (w0 : World) (p gs : Nat) (S' : Sp) (x : Int) (e : Ending) (w' : World) : Prop := e = .returned (.int .i64 x) ∧ Dk B w0 w' p gs S'
section
variable {B : Nat} {w0 w w' : World} {p gs : Nat} {S S' : Sp}
theorem Dk.below (h : Dk B w0 w p gs S) : Below B w0 w := by obtain ⟨_, _, _, h, _⟩ := h; exact h
theorem Dk.wf (h : Dk B w0 w p gs S) : S.WF := by obtain ⟨_, h, _⟩ := h; exact h.wf
theorem Dk.fr (h : Dk B w0 w p gs S) (hf : Fr w w' []) : Dk B w0 w' p gs S := by
  obtain ⟨vw, h1, h2, h3, h4⟩ := h
  exact ⟨vw, h1.fr hf (by simp), h2, h3.trans (hf.below (by simp) h4), Nat.le_trans h4 hf.size⟩
theorem Dk.alloc (h : Dk B w0 w p gs S) (o : Obj) : Dk B w0 (w.alloc o) p gs S := h.fr ((Fr.refl w []).alloc o)
theorem Dk.drewN (h : Dk B w0 w p gs S) (n : Nat) : Dk B w0 (w.drewN n) p gs S := h.fr ⟨rfl, rfl, rfl, Nat.le_refl _, fun _ _ _ => rfl⟩
theorem Dk.drew (h : Dk B w0 w p gs S) : Dk B w0 w.drew p gs S := h.drewN 1
theorem Dk.next {vw vw' : Value} (h1 : HasD w p gs vw S) (h2 : ∀ b ∈ fpD p gs vw, B ≤ b) (h3 : Below B w0 w) (h4 : B ≤ w.heap.size) (k1 : HasD w' p gs vw' S') (k2 : Fr w w' (fpD p gs vw)) (k3 : ∀ g, vw'.ownBlock = some g → vw.ownBlock = some g ∨ w.heap.size ≤ g) :
    Dk B w0 w' p gs S' := by
  refine ⟨vw', k1, ?_, h3.trans (k2.below h2 h4), Nat.le_trans h4 k2.size⟩
  intro b hb
  simp only [fpD, List.mem_cons, Option.mem_toList] at hb
  rcases hb with rfl | rfl | hb
  · exact h2 _ (by simp [fpD])
  · exact h2 _ (by simp [fpD])
  · rcases k3 b hb with h | h
    · exact h2 b (by simp [fpD, h])
    · omega
theorem Dk.call {P : Program} {f : FuncId} {args : Array Value} {r : Sp × Int} {x : Int} (h : Dk B w0 w p gs S) (hr : r = (S', x)) (H : ∀ vw, HasD w p gs vw S → Calls P f args w (DE w p gs vw r)) : Calls P f args w (DP B w0 p gs S' x) := by
  subst hr
  obtain ⟨vw, h1, h2, h3, h4⟩ := h
  refine (H vw h1).mono ?_
  rintro e w' ⟨vw', rfl, k1, k2, k3⟩
  exact ⟨rfl, Dk.next h1 h2 h3 h4 k1 k2 k3⟩
theorem Dk.call1 {P : Program} {f : FuncId} {args : Array Value} {r : Sp × Int} {x : Int} (h : Dk B w0 w p gs S) (hr : r = (S', x)) (H : ∀ vw, HasD w p gs vw S → Calls P f args w fun e w' => e = .returned (.int .i64 r.2) ∧ HasD w' p gs vw r.1 ∧ Fr w w' [p]) :
    Calls P f args w (DP B w0 p gs S' x) :=
  h.call hr fun vw hv => (H vw hv).mono fun e w' ⟨k1, k2, k3⟩ => ⟨vw, k1, k2, k3.mono (by simp [fpD]), fun _ hg => .inl hg⟩
theorem Dk.ask {P : Program} {f : FuncId} {args : Array Value} {x : Ending} (h : Dk B w0 w p gs S) (H : ∀ vw, HasD w p gs vw S → Calls P f args w fun e w' => e = x ∧ w = w') : Calls P f args w fun e w' => e = x ∧ w' = w := by
  obtain ⟨vw, h1, _⟩ := h
  exact (H vw h1).mono fun e w' ⟨k1, k2⟩ => ⟨k1, k2.symm⟩
theorem dk_write (h : Dk B w0 w p gs S) (hc : S.count ≤ 1048576) (i : Int) (s : ByteArray) {x : Int} (hr : S.write i (sb s) = (S', x)) : Calls Tryd.prog 28 #[dptr p, .int .i64 i, .string s] w (DP B w0 p gs S' x) :=
  h.call hr fun vw hv => write_any p gs vw S i s w hv hc
theorem dk_flush (h : Dk B w0 w p gs S) (hc : S.count ≤ 1048576) {x : Int} (hr : S.flush = (S', x)) : Calls Tryd.prog 29 #[dptr p] w (DP B w0 p gs S' x) :=
  h.call hr fun vw hv => flush_any p gs vw S w hv hc
theorem dk_fuse (h : Dk B w0 w p gs S) (n : Int) (hn : n ≤ 9223372036854775807) {x : Int} (hr : S.fuse n = (S', x)) : Calls Tryd.prog 30 #[dptr p, .int .i64 n] w (DP B w0 p gs S' x) :=
  h.call1 hr fun vw hv => fuse_any p gs vw S n w hv hn
theorem dk_start (h : Dk B w0 w p gs S) (hc : S.count ≤ 1048576) (picks : List Int) (A : Option Addr) (l c D : Nat) (hl : l = picks.length) (hrd : Rd w D A (ints picks)) (hp : ∀ x ∈ picks, x ≤ 9223372036854775807) (hpn : picks.length ≤ 9223372036854775807)
    (hA : picks ≠ [] → ∀ g o, A = some ⟨g, o, none⟩ → g ≠ gs) {x : Int} (hr : S.start picks = (S', x)) : Calls Tryd.prog 32 #[dptr p, .slice A l c] w (DP B w0 p gs S' x) := by
  subst hl
  exact h.call hr fun vw hv => start_any p gs vw S picks A c D w hv hc hrd hp hpn hA
/-- Start, its picks a row that was just made -/
theorem dk_start_new (h : Dk B w0 w p gs S) (hc : S.count ≤ 1048576) (picks : List Int) (hp : ∀ x ∈ picks, x ≤ 9223372036854775807) (hpn : picks.length ≤ 9223372036854775807) {x : Int} (hr : S.start picks = (S', x)) (l : Nat) (hl : l = picks.length) :
    Calls Tryd.prog 32 #[dptr p, .slice (some ⟨w.heap.size, 0, none⟩) l l] (w.alloc (.cells (ints picks).toArray 3)) (DP B w0 p gs S' x) := by
  have hlt : gs < w.heap.size := by obtain ⟨vw, hv, _⟩ := h; exact hv.secs.lt
  refine dk_start (h.alloc _) hc picks _ l l (w.heap.size + 1) hl ?_ hp hpn ?_ hr
  · have := Row.new w 3 (ints picks).toArray
    exact this.rd (by omega)
  · intro _ g o e
    cases e
    omega
theorem dk_on (h : Dk B w0 w p gs S) {b : Bool} (hr : S.on = b) : Calls Tryd.prog 31 #[dptr p] w fun e w' => e = .returned (.bool b) ∧ w' = w := by
  subst hr
  exact h.ask fun vw hv => on_any p gs vw S w hv
/-- a text and a number -/
def DR (B : Nat) (w0 : World) (p gs : Nat) (S : Sp) (l : List UInt8) (x : Int) (e : Ending) (w' : World) : Prop := e = .returned (.tuple #[.string ⟨l.toArray⟩, .int .i64 x]) ∧ Dk B w0 w' p gs S
theorem dk_read (h : Dk B w0 w p gs S) (hc : S.count ≤ 1048576) (i : Int) {l : List UInt8} {x : Int} (hr : S.read i = (l, x)) : Calls Tryd.prog 33 #[dptr p, .int .i64 i] w (DR B w0 p gs S l x) := by
  obtain ⟨vw, h1, h2⟩ := h
  refine (read_any p gs vw S i w h1 hc).mono ?_
  rw [hr]
  rintro e w' ⟨rfl, n, rfl⟩
  exact ⟨rfl, Dk.drewN ⟨vw, h1, h2⟩ n⟩
/-- a new disk -/
def DN (w : World) (n : Nat) (e : Ending) (w' : World) : Prop := ∃ p gs, e = .returned (.tuple #[dptr p, .int .i64 0]) ∧ Dk w.heap.size w w' p gs (Sp.mk0 n)
theorem dk_new (n : Nat) (w : World) (h1 : 1 ≤ n) (h2 : n ≤ 64) : Calls Tryd.prog 26 #[.int .i64 (n : Int)] w (DN w n) := by
  refine (new_yes n w h1 h2).mono ?_
  rintro e w' ⟨p, gs, rfl, k1, k2, k3, k4⟩
  refine ⟨p, gs, rfl, _, k1, ?_, k2.below (by simp) (Nat.le_refl _), k2.size⟩
  intro b hb
  simp [fpD, Value.ownBlock] at hb
  rcases hb with rfl | rfl <;> assumption
theorem dk_mix (h : Dk B w0 w p gs S) (a b : List UInt8) (c : Nat) (ha : a.length = 384) (hb : b.length = 384) (hc : c ≤ 384) : Calls Tryd.prog 34 #[.string ⟨a.toArray⟩, .string ⟨b.toArray⟩, .int .i64 (c : Int)] w fun e w' => e = .returned (.string ⟨(mixS a b c).toArray⟩) ∧ Dk B w0 w' p gs S := by
  have sz : ∀ l : List UInt8, (⟨l.toArray⟩ : ByteArray).size = l.length := fun l => by rw [← sb_len]; simp [sb]
  have H := mix_any ⟨a.toArray⟩ ⟨b.toArray⟩ c w (by rw [sz, ha]) (by rw [sz, hb]) hc
  refine H.mono ?_
  rintro e w' ⟨rfl, k2⟩
  exact ⟨by simp [sb, str], h.fr k2⟩
end
end Go.Proofs.YtdcoiehhnllhmaaDoor
/-
  The walk of awake: the chapter's last example.
-/
namespace Go.Proofs.YtdcoiehhnllhmaaDoor
open Go.RowKit

theorem sb_str (l : List UInt8) : sb ⟨l.toArray⟩ = l := by simp [sb]
theorem Sp.is_zero (S : Sp) (h : 0 < S.secs.length) : S.is 0 := ⟨by omega, by omega⟩
def aw1 : Sp := ⟨[sec0, sec0], [⟨0, b384 7⟩], true, 0, 1⟩
def aw2 : Sp := ⟨[sec0, sec0], [⟨0, b384 7⟩], false, 0, 1⟩
def aw3 : Sp := ⟨[takeS3 sec0 (b384 7) 10, sec0], [], true, 0, 1⟩
theorem aw_write : (Sp.mk0 2).write 0 (sb ⟨(b384 7).toArray⟩) = (aw1, 0) := by
  rw [sb_str]
  exact Sp.write_ok (S := Sp.mk0 2) (k := 0) (s := b384 7) (by show 0 < (List.replicate 2 sec0).length; simp) (b384_len 7) rfl (by show (0 : Nat) ≠ 1; omega)
theorem aw_cut : aw1.cut = (aw2, 0) := rfl
theorem aw_pick : pickOf [32] 0 = 10 := by decide
theorem aw_start : aw2.start [32] = (aw3, 0) := by
  show (if (false : Bool) = true then (aw2, (10 : Int)) else ({ aw2 with secs := sett (pickOf [32]) aw2.way aw2.secs, way := [], on := true }, 0)) = _
  rw [if_neg (by simp)]
  have e : sett (pickOf [32]) aw2.way aw2.secs = [takeS3 sec0 (b384 7) 10, sec0] := by
    show [takeS3 sec0 (b384 7) (pickOf [32] 0), sec0] = _
    rw [aw_pick]
  rw [e]
  rfl
theorem aw_read : aw3.read 0 = (mixS (b384 7) (b384 0) 10, 0) := by
  unfold Sp.read
  rw [if_neg (fun h => h (Sp.is_zero aw3 (by simp [aw3]))), if_neg (by simp [aw3])]
  rfl
theorem aw_marked : (decide (aw3.is 0) && (aw3.secs.getD (0 : Int).toNat ⟨[], false⟩).marked) = true := by
  rw [decide_eq_true (Sp.is_zero aw3 (by simp [aw3]))]
  rfl
/-- true, and nothing that was there has turned -/
def YF (w : World) (e : Ending) (w' : World) : Prop := e = .returned (.bool true) ∧ Fr w w' []
theorem Dk.frame {w w' : World} {p gs : Nat} {S : Sp} (h : Dk w.heap.size w w' p gs S) : Fr w w' [] := by
  have hb := h.below
  exact ⟨hb.os, hb.tape, hb.output, hb.size, fun k hk _ => hb.block k hk⟩
end Go.Proofs.YtdcoiehhnllhmaaDoor
/-
  The walk of DiskTears.
-/
namespace Go.Proofs.YtdcoiehhnllhmaaDoor
open Go.RowKit

/-- a sector that was wholly written -/
def full3 (l : List UInt8) : Sec := ⟨l, false⟩
theorem takeS_full (k l : List UInt8) (hk : k.length = 384) (hl : l.length = 384) : takeS3 (full3 k) l 384 = full3 l := by
  unfold takeS3 full3
  rw [List.take_of_length_le (Nat.le_of_eq hl), List.drop_eq_nil_of_le (Nat.le_of_eq hk)]
  simp
theorem Sp.flush_ok {S : Sp} (ho : S.on = true) (hl : S.left ≠ 1) : S.flush = ({ S with left := S.left - 1, count := S.count + 1, secs := sett (fun _ => 384) S.way S.secs, way := [] }, 0) := by
  unfold Sp.flush
  rw [Sp.goes_more ho hl, if_pos rfl]
theorem Sp.start_ok {S : Sp} (ho : S.on = false) (picks : List Int) : S.start picks = ({ S with secs := sett (pickOf picks) S.way S.secs, way := [], on := true }, 0) := by
  unfold Sp.start
  rw [if_neg (by simp [ho])]
theorem Sp.cut_ok {S : Sp} (ho : S.on = true) : S.cut = ({ S with on := false, left := 0 }, 0) := by
  unfold Sp.cut
  rw [if_neg (by simp [ho])]
theorem Sp.write_str {S S' : Sp} {k : Nat} {l : List UInt8} (hl : l.length = 384) (hk : k < S.secs.length) (ho : S.on = true) (hl1 : S.left ≠ 1) (h : { S with left := S.left - 1, count := S.count + 1, way := S.way ++ [⟨k, l⟩] } = S') :
    S.write k (sb ⟨l.toArray⟩) = (S', 0) := by
  rw [sb_str, Sp.write_ok hk hl ho hl1, h]
def te0 : Sp := ⟨[sec0, sec0, sec0], [], true, 0, 0⟩
def te1 (a : List UInt8) : Sp := ⟨[sec0, sec0, sec0], [⟨1, a⟩], true, 0, 1⟩
def te2 (a : List UInt8) : Sp := ⟨[sec0, full3 a, sec0], [], true, 0, 2⟩
def te3 (a c : List UInt8) : Sp := ⟨[sec0, full3 a, sec0], [⟨2, c⟩], true, 0, 3⟩
def te4 (a c : List UInt8) : Sp := ⟨[sec0, full3 a, sec0], [⟨2, c⟩, ⟨1, c⟩], true, 0, 4⟩
def te5 (a c : List UInt8) : Sp := ⟨[sec0, full3 a, sec0], [⟨2, c⟩, ⟨1, c⟩], false, 0, 4⟩
def te6 (a c : List UInt8) (m n : Nat) : Sp := ⟨[sec0, takeS3 (full3 a) c n, takeS3 sec0 c m], [], true, 0, 4⟩
theorem te_0 : Sp.mk0 3 = te0 := rfl
section
variable {a c : List UInt8} (ha : a.length = 384) (hc : c.length = 384)
include ha in
theorem te_1 : te0.write 1 (sb ⟨a.toArray⟩) = (te1 a, 0) := Sp.write_str (S := te0) (k := 1) ha (by simp [te0]) rfl (by simp [te0]) rfl
include ha in
theorem te_2 : (te1 a).flush = (te2 a, 0) := by
  rw [Sp.flush_ok rfl (by simp [te1])]
  have e : sett (fun _ => 384) (te1 a).way (te1 a).secs = [sec0, takeS3 (full3 (b384 0)) a 384, sec0] := rfl
  rw [e, takeS_full _ _ (b384_len 0) ha]
  rfl
include hc in
theorem te_3 : (te2 a).write 2 (sb ⟨c.toArray⟩) = (te3 a c, 0) := Sp.write_str (S := te2 a) (k := 2) hc (by simp [te2]) rfl (by simp [te2]) rfl
include hc in
theorem te_4 : (te3 a c).write 1 (sb ⟨c.toArray⟩) = (te4 a c, 0) := Sp.write_str (S := te3 a c) (k := 1) hc (by simp [te3]) rfl (by simp [te3]) rfl
theorem te_5 : (te4 a c).cut = (te5 a c, 0) := Sp.cut_ok rfl
theorem te_6 (o p : Int) : (te5 a c).start [o, p] = (te6 a c (keptS o) (keptS p), 0) := Sp.start_ok rfl _
theorem te_read (m n : Nat) : (te6 a c m n).read 1 = (mixS c a n, 0) := by
  unfold Sp.read
  rw [if_neg (fun h => h ⟨by omega, by simp [te6]⟩), if_neg (by simp [te6])]
  rfl
theorem te_marked (m n : Nat) : (decide ((te6 a c m n).is 1) && ((te6 a c m n).secs.getD (1 : Int).toNat ⟨[], false⟩).marked) = decide (0 < n ∧ n < 384) := by
  rw [decide_eq_true (show (te6 a c m n).is 1 from ⟨by omega, by simp [te6]⟩)]
  show (true && (takeS3 (full3 a) c n).marked) = _
  unfold takeS3 full3
  by_cases h : n = 0
  · simp [h]
  · simp [h]
    omega
end

end Go.Proofs.YtdcoiehhnllhmaaDoor
