/-
  The walks of package event's take, and of the document's At, Flags, many.
-/
import Derived.Test.YtbofabmgfkploaaNums
namespace Go.Proofs.Ytbofabmgfkploaa
open Go.RowKit
set_option maxRecDepth 10000

theorem takeS_eight (bs : List UInt8) (i : Nat) (h : i + 8 ≤ bs.length) : takeS bs i 8 = (at8 bs i, 0) := by
  unfold takeS
  rw [if_neg (by omega), if_neg (by omega)]
  rfl

set_option maxHeartbeats 400000 in
theorem at_any (s : ByteArray) (i : Nat) (w : World) (h : i + 8 ≤ s.size) (hs : s.size ≤ 140737488355328) :
    Calls Try.prog 81 #[.string s, .int .i64 (i : Int)] w (VE w (.int .u64 (at8 (sb s) i : Int))) := by
  have HP := hid (fun W A c B (hr : Rd W B A (bvs (sb s))) => by
    have := rtake_any A (sb s) s.size c B i 8 W hr (sb_len s).symm hs
    rw [takeS_eight (sb s) i (by rw [sb_len]; exact h)] at this
    exact this)
  generalize at8 (sb s) i = x at HP
  go_enter Try.func81, Try.ntmps81
  go_wp2_with (first
    | (with_reducible refine wpl_bytes rfl _ _ _ rfl 5 Try.underlying9 Try.underlying116 Try.underlying5 s rfl ?_; intro g c k0 w1 HG HC HR HB)
    | (go_at_call 96; refine (HP.out w1 _ c (g + 1) (by
        have := (HR.rd (B := g + 1) (by omega)).take (bvs (sb s)).length
        rwa [List.take_left] at this)).mono ?_; rintro e w2 ⟨rfl, hb2⟩))
  go_ret
  exact ⟨rfl, HB.trans (hb2.mono HB.size)⟩

theorem many_any (n : Int) (w : World) : Calls Try.prog 80 #[.int .i64 n] w fun e w' => e = .returned (.bool (decide (1 ≤ n ∧ n ≤ 4))) ∧ w = w' := by
  by_cases h1 : 1 ≤ n
  · by_cases h2 : n ≤ 4
    · have e : decide (1 ≤ n ∧ n ≤ 4) = true := decide_eq_true ⟨h1, h2⟩
      rw [e]
      have H := hid e
      clear e
      go_enter Try.func80, Try.ntmps80
      go_wp2_with fail
      go_ret
      exact ⟨by simp, rfl⟩
    · have e : decide (1 ≤ n ∧ n ≤ 4) = false := decide_eq_false (by omega)
      rw [e]
      clear e
      go_enter Try.func80, Try.ntmps80
      go_wp2_with fail
      go_ret
      exact ⟨by simp, rfl⟩
  · have e : decide (1 ≤ n ∧ n ≤ 4) = false := decide_eq_false (by omega)
    rw [e]
    have h3 : decide (1 ≤ n) = false := decide_eq_false h1
    clear e
    go_enter Try.func80, Try.ntmps80
    go_wp2_with fail
    go_ret
    exact ⟨by simp, rfl⟩

/-- a text and a yes or no -/
def SB (w : World) (r : List UInt8 × Bool) (e : Ending) (w' : World) : Prop := e = .returned (.tuple #[.string ⟨r.1.toArray⟩, .bool r.2]) ∧ Below w.heap.size w w'

set_option maxHeartbeats 400000 in
theorem flags_yes (n : Nat) (w : World) (h2 : (n : Int) ≤ 255) : Calls Try.prog 86 #[.int .i64 (n : Int)] w (SB w ([UInt8.ofNat n], true)) := by
  have h1 : decide ((n : Int) < 0) = false := by simp
  have hr : Rd (w.alloc (.cells #[.int .u8 (n : Int)] 5)) (w.heap.size + 1) (some ⟨w.heap.size, 0, none⟩) (bvs [UInt8.ofNat n]) := by
    have e : bvs [UInt8.ofNat n] = [.int .u8 (n : Int)] := by simp [bvs, bv_ofNat]; omega
    rw [e]
    exact Row.rd (Row.new w 5 #[.int .u8 (n : Int)]) (by omega)
  have HR := hid hr
  clear hr
  go_enter Try.func86, Try.ntmps86
  go_wp2_with (with_reducible refine wpl_str rfl _ 116 9 rfl 5 Try.underlying116 Try.underlying5 Try.underlying9 _ 1 1 rfl (w.heap.size + 1) [UInt8.ofNat n] ?_ (hid HR.out) (hid rfl))
  go_ret2
  exact ⟨rfl, (Below.refl _ _).alloc (Nat.le_refl _) _⟩
set_option maxHeartbeats 400000 in
theorem flags_low (n : Int) (w : World) (h : n < 0) : Calls Try.prog 86 #[.int .i64 n] w (SB w ([], false)) := by
  go_enter Try.func86, Try.ntmps86
  go_wp2_with fail
  go_ret2
  exact ⟨rfl, Below.refl _ _⟩
set_option maxHeartbeats 400000 in
theorem flags_high (n : Int) (w : World) (h : 255 < n) : Calls Try.prog 86 #[.int .i64 n] w (SB w ([], false)) := by
  have h1 : decide (n < 0) = false := decide_eq_false (by omega)
  go_enter Try.func86, Try.ntmps86
  go_wp2_with fail
  go_ret2
  exact ⟨rfl, Below.refl _ _⟩
def flagS (n : Int) : List UInt8 × Bool := if 0 ≤ n ∧ n ≤ 255 then ([UInt8.ofNat n.toNat], true) else ([], false)
theorem flags_any (n : Int) (w : World) : Calls Try.prog 86 #[.int .i64 n] w (SB w (flagS n)) := by
  unfold flagS
  by_cases h : 0 ≤ n ∧ n ≤ 255
  · rw [if_pos h]
    obtain ⟨m, rfl⟩ := Int.eq_ofNat_of_zero_le h.1
    exact flags_yes m w h.2
  · rw [if_neg h]
    by_cases h1 : n < 0
    · exact flags_low n w h1
    · exact flags_high n w (by omega)

/-! ### take -/
theorem take_eight (A : Option Addr) (bs : List UInt8) (l c i B : Nat) (W : World) (hr : Rd W B A (bvs bs)) (hl : l = bs.length) (h : i + 8 ≤ l) (hc : l ≤ c) (hB : B ≤ W.heap.size) (hbig : l ≤ 140737488355328) :
    Calls Try.prog 90 #[.slice A l c, .int .i64 (i : Int), .int .i64 8] W fun e w' => e = .returned (.tuple #[.int .u64 (at8 bs i : Int), .int .i64 0]) ∧ Below W.heap.size W w' := by
  have := take_any A bs l c B i 8 W hr hl hbig hc hB
  rw [takeS_eight bs i (by omega)] at this
  exact this

/-- the cells behind k numbers are taken -/
def took (cs : List Value) (s : List UInt8) (os : List Nat) : Nat → List Value
  | 0 => cs
  | k + 1 => (took cs s os k).set (os.getD k 0) (.int .u64 (at8 s (8 * k) : Int))
theorem took_len (cs : List Value) (s : List UInt8) (os : List Nat) : ∀ k, (took cs s os k).length = cs.length
  | 0 => rfl
  | k + 1 => by rw [took, List.length_set, took_len cs s os k]
def ptrs (g : Nat) (os : List Nat) : List Value := os.map fun o => .pointer (some ⟨g, o, none⟩)

set_option maxHeartbeats 400000 in
theorem take_no (s : ByteArray) (P : Option Addr) (n c : Nat) (w : World) (hn : n ≤ 4) (h : ((s.size : Int) != (8 * n : Nat)) = true) :
    Calls Try.prog 72 #[.string s, .slice P n c] w fun e w' => e = .returned (.bool false) ∧ w = w' := by
  have hw : wrap64 (8 * (n : Int)) = ((8 * n : Nat) : Int) := by rw [IntWalk.wrap64_in _ ⟨by omega, by omega⟩]; omega
  go_enter Try.func72, Try.ntmps72
  go_wp2_with fail
  go_ret
  exact ⟨rfl, rfl⟩

set_option maxHeartbeats 1000000 in
theorem take_yes (s : ByteArray) (g gp op n c B : Nat) (T : TypeId) (cs : List Value) (os : List Nat) (w : World) (hn : n ≤ 4) (h0 : 0 < n) (hos : os.length = n) (hs : s.size = 8 * n)
    (hrow : Row w g T cs) (hp : Rd w B (some ⟨gp, op, none⟩) (ptrs g os)) (hne : gp ≠ g) (hc : n ≤ c) (hcs : ∀ o ∈ os, o < cs.length) :
    Calls Try.prog 72 #[.string s, .slice (some ⟨gp, op, none⟩) n c] w fun e w' => e = .returned (.bool true) ∧ Row w' g T (took cs (sb s) os n) ∧ w.grownBy w' (some g) := by
  have hg := hrow.lt
  have hw : wrap64 (8 * (n : Int)) = ((8 * n : Nat) : Int) := by rw [IntWalk.wrap64_in _ ⟨by omega, by omega⟩]; omega
  have heq : ((s.size : Int) != (8 * n : Nat)) = false := by rw [hs]; simp
  have hget : ∀ W : World, w.grownBy W (some g) → ∀ k (hk : k < os.length), W.cell? ⟨gp, op + k, none⟩ = some (.pointer (some ⟨g, os[k], none⟩)) := fun W hW k hk => by
    obtain ⟨g', o', e, _, hcell⟩ := hp (by intro e; have : (ptrs g os).length = 0 := by rw [e]; rfl
                                           simp [ptrs] at this; rw [this] at hos; simp at hos; omega)
    cases e
    have h1 := hcell k (.pointer (some ⟨g, os[k], none⟩)) (by simp [ptrs, hk])
    exact hW.cell h1 (by intro e; exact hne (by simpa using e))
  have HGET := hid hget
  have HOS := hid hos
  have HROW := hid hrow
  have HCS := hid hcs
  have HS := hid hs
  have HSB := hid (sb_len s)
  clear hget hos hrow hcs hp hs
  go_enter Try.func72, Try.ntmps72
  go_wp2_with (with_reducible refine wpl_bytes rfl _ _ _ rfl 5 Try.underlying9 Try.underlying116 Try.underlying5 s rfl ?_; intro gb c1 k0 w1 HG HC HR HB)
  have hg1 : w.grownBy w1 (some g) := gbelow HB (Nat.le_refl _) _
  have hr1 := HROW.out.below HB hg
  have hgb : g < gb := by have := HG.out; omega
  have HG1 := hid hg1
  have HR1 := hid hr1
  have HRB := hid HR
  have HGB := hid HR.lt
  clear HB HR hr1 hg1
  go_loopw [18] (fun i wr => ∃ k : Nat, k ≤ n ∧ i = .int .i64 k ∧ Row wr g T (took cs (sb s) os k) ∧ w1.grownBy wr (some g)) (fun i _ => n - (intOf i).toNat)
  case atStart => exact ⟨0, by omega, rfl, HR1.out, World.grownBy.refl _ _⟩
  case round =>
    obtain ⟨k, hk, rfl, hrow, hgr⟩ := hrel
    have HGR := hid hgr
    have hsz := hgr.size
    have hfr : FRow wr gb 5 (bvs (sb s) ++ List.replicate k0 (.int .u8 0)) := (hgr.block gb HGB.out (by intro e; simp at e; omega)).trans HRB.out
    by_cases hlt : k < n
    · have hko : k < os.length := by rw [HOS.out]; exact hlt
      have hc := HGET.out wr (gtrans HG1.out hgr) k hko
      have hol : os[k] < cs.length := HCS.out _ (List.getElem_mem hko)
      have hrd : Rd wr (gb + 1) (some ⟨gb, 0, none⟩) (bvs (sb s)) := by
        have := (hfr.rd (B := gb + 1) (by omega)).take (bvs (sb s)).length
        rwa [List.take_left] at this
      have HP := hid (take_eight _ (sb s) s.size c1 (8 * k) (gb + 1) wr hrd HSB.out.symm (by rw [HS.out]; omega) HC.out (by have := HGB.out; omega) (by rw [HS.out]; omega))
      have HK : Hid (∀ W : World, Below wr.heap.size wr W → (∃ u, W.cell? ⟨g, os[k], none⟩ = some u) ∧ W.frozen? ⟨g, os[k], none⟩ = false ∧
          Row (W.setCell ⟨g, os[k], none⟩ (.int .u64 (at8 (sb s) (8 * k) : Int))) g T (took cs (sb s) os (k + 1)) ∧ wr.grownBy (W.setCell ⟨g, os[k], none⟩ (.int .u64 (at8 (sb s) (8 * k) : Int))) (some g)) := hid fun W hb => by
        have h1 := hrow.below hb (by have := HGB.out; omega)
        refine ⟨⟨(took cs (sb s) os k)[os[k]]'(by rw [took_len]; exact hol), by rw [h1.cell]; exact List.getElem?_eq_getElem _⟩, h1.frozen _, ?_, gtrans (gbelow hb (Nat.le_refl _) _) (gset _ _ _ _)⟩
        have := h1.set_ os[k] (.int .u64 (at8 (sb s) (8 * k) : Int))
        have e : os[k] = os.getD k 0 := by simp [hko]
        rw [took, ← e]
        exact this
      have hw8 : wrap64 (8 * (k : Int)) = 8 * (k : Int) := IntWalk.wrap64_in _ ⟨by omega, by omega⟩
      rw [show ((8 * k : Nat) : Int) = 8 * (k : Int) by omega] at HP
      generalize os[k] = o at hc HK
      generalize at8 (sb s) (8 * k) = x at HP HK
      clear hrow hgr hfr hol hrd
      go_wp2_with (go_at_call 90; refine HP.out.mono ?_; rintro e w2 ⟨rfl, hb2⟩; obtain ⟨⟨u, q1⟩, q2, q3, q4⟩ := HK.out w2 hb2; have Q3 := hid q3; have Q4 := hid q4; clear q3 q4)
      exact ⟨⟨k + 1, by omega, by go_num, Q3.out, gtrans HGR.out Q4.out⟩, by simp [intOf]; omega⟩
    · obtain rfl : k = n := by omega
      have HROW2 := hid hrow
      clear hrow hgr hfr
      go_wp2_with fail
      go_ret
      exact ⟨rfl, HROW2.out, gtrans HG1.out HGR.out⟩
end Go.Proofs.Ytbofabmgfkploaa
