/-
  The walk of the law's whole: its text and its loop.
-/
import Derived.Test.YtkfgbjmadfnmkaaWhole
namespace Go.Proofs.Ytkfgbjmadfnmkaa
open Go.RowKit
set_option maxRecDepth 10000

/-- []byte(s), as bytes of the call's own -/
theorem wpl_bytesM {w : World} {ops : Array Oper} {rest : List Oper} {o : Oper} {a : Act} {Q : Exit → Act → World → Prop} (hgd : o.guard = none) (x : Operand)
    (ho : o.op = .convert 9 56 x) (s : ByteArray) (hx : a.eval x = .string s)
    (h : ∀ v w', OwnM w' w.heap.size v (sb s) → Below w.heap.size w w' → wpList Try.prog ops Q rest (a.put o.dst v) w') : wpList Try.prog ops Q (o :: rest) a w := by
  refine wpList_plain hgd fun K hK => ?_
  have hrow : bytesRow s (grownCap w s.size 0 5) = (bvs (sb s) ++ List.replicate (grownCap w s.size 0 5 - s.size) (Value.int .u8 0)).toArray := by
    apply Array.toList_inj.1
    simp [bytesRow, bvs, sb]
    intro b _
    rfl
  have hlen : (bytesRow s (grownCap w s.size 0 5)).size = (bvs (sb s) ++ List.replicate (grownCap w s.size 0 5 - s.size) (Value.int .u8 0)).length := by rw [hrow]; simp
  have hge := grownCap_ge w s.size 0 5
  unfold Oper.wp execOp
  simp only [ho, Sem.run_bind, Sem.run_pure, Result.andThen_ok, hx, run_bytes_of_string w 9 56 5 s Try.underlying9 Try.underlying56 Try.underlying5]
  refine hK _ _ (h _ _ ?_ ((Below.refl _ _).drew.alloc (Nat.le_refl _) _))
  have hF : FRow (w.drew.alloc (.cells (bytesRow s (grownCap w s.size 0 5)) 5 ((bytesRow s (grownCap w s.size 0 5)).size, (bytesRow s (grownCap w s.size 0 5)).size + 1))) w.heap.size 5 (bvs (sb s) ++ List.replicate (grownCap w s.size 0 5 - s.size) (Value.int .u8 0)) := by
    unfold FRow
    rw [hlen, hrow]
    exact heap_alloc_new _ _
  have := hF.ownM (c := grownCap w s.size 0 5) (Nat.le_refl _) (by rw [sb_len]; omega)
  rw [sb_len] at this
  exact this

/-- a sector of any bytes -/
def wholeS (l : List UInt8) : List UInt8 := l.take 384 ++ List.replicate (384 - l.length) 0
theorem wholeS_len (l : List UInt8) : (wholeS l).length = 384 := by simp [wholeS]; omega

set_option maxHeartbeats 1000000 in
theorem whole_few (l : List UInt8) (hl : l.length ≤ 384) (s : ByteArray) (w : World) (hs : sb s = l) (h : s.size ≤ 384) :
    Calls Try.prog 27 #[.string s] w (SE w (l ++ List.replicate (384 - l.length) 0)) := by
  obtain ⟨i0, hi, hz0, hz1, hz2⟩ := info_parts u8info
  have hex : s.extract 0 s.size = s := by simp
  have HS := hid hs
  have hmin : (s.size : Int) ≤ 384 := by omega
  clear hs
  go_enter Try.func27, Try.ntmps27
  go_wp2_with (with_reducible refine wpl_bytesM rfl _ rfl s rfl ?_; intro v1 w1 hown1 hb1; rw [HS.out] at hown1)
  go_loopw [3] (fun b wr => ∃ k : Nat, l.length + k ≤ 384 ∧ OwnM wr w.heap.size b (l ++ List.replicate k 0) ∧ Below w.heap.size w wr) (fun b _ => 384 - lenV b)
  case atStart => exact ⟨0, by omega, by simpa using hown1, hb1⟩
  case round =>
    obtain ⟨k, hk, hown, hbe⟩ := hrel
    have hsz := hbe.size
    obtain ⟨A, c, rfl, hc, hrd⟩ := hown.shape
    generalize hn : (l ++ List.replicate k 0).length = n at *
    have HN : Hid (n = l.length + k) := hid (by rw [← hn]; simp)
    by_cases hlt : n < 384
    · have hd : decide ((n : Int) < 384) = true := by simp; omega
      have HNL := hid hn
      clear hn hrd
      go_wp2_with (with_reducible refine wpl_append_one rfl _ _ rfl w.heap.size i0 hi hz0 hz1 hz2 (.slice A n c) _ rfl (hown.alloc _) ⟨wr.heap.size, 0, none⟩ 1 0 rfl ?_ ?_ ?_ ?_; intro v2 w2 hown2 hb2)
      rotate_left
      · exact hid (by simp [bv])
      · exact hid (by rw [HNL.out]; omega)
      · exact hid (by simp; omega)
      obtain ⟨A2, c2, rfl, hc2, _⟩ := hown2.shape
      go_roundw
      case rel =>
        refine ⟨k + 1, by have := HN.out; omega, ?_, (hbe.alloc hsz _).trans hb2⟩
        rw [List.replicate_succ', ← List.append_assoc]
        exact hown2
      case measure =>
        have := HNL.out
        simp only [lenV, List.length_append, List.length_singleton] at this ⊢
        omega
    · have hk2 : k = 384 - l.length := by have := HN.out; omega
      obtain rfl : n = 384 := by have := HN.out; omega
      subst hk2
      have HRD := hid hrd
      have HL := hid hn
      clear hrd hn hown
      go_wp2_with (with_reducible refine wpl_str rfl _ 56 9 rfl 5 Try.underlying56 Try.underlying5 Try.underlying9 A 384 c rfl wr.heap.size (l ++ List.replicate (384 - l.length) 0) ?_ HRD (hid HL.out.symm))
      go_ret
      exact ⟨rfl, hbe⟩

set_option maxHeartbeats 1000000 in
theorem whole_many (l : List UInt8) (hl : l.length ≤ 384) (s t : ByteArray) (w : World) (ht : sb t = l) (hex : s.extract 0 384 = t) (h : 384 < s.size) :
    Calls Try.prog 27 #[.string s] w (SE w (l ++ List.replicate (384 - l.length) 0)) := by
  obtain ⟨i0, hi, hz0, hz1, hz2⟩ := info_parts u8info
  have HS := hid ht
  have hmin : (384 : Int) < (s.size : Int) := by omega
  have hmin2 : (384 : Int) ≤ (s.size : Int) := by omega
  clear ht
  go_enter Try.func27, Try.ntmps27
  go_wp2_with (with_reducible refine wpl_bytesM rfl _ rfl t rfl ?_; intro v1 w1 hown1 hb1; rw [HS.out] at hown1)
  go_loopw [3] (fun b wr => ∃ k : Nat, l.length + k ≤ 384 ∧ OwnM wr w.heap.size b (l ++ List.replicate k 0) ∧ Below w.heap.size w wr) (fun b _ => 384 - lenV b)
  case atStart => exact ⟨0, by omega, by simpa using hown1, hb1⟩
  case round =>
    obtain ⟨k, hk, hown, hbe⟩ := hrel
    have hsz := hbe.size
    obtain ⟨A, c, rfl, hc, hrd⟩ := hown.shape
    generalize hn : (l ++ List.replicate k 0).length = n at *
    have HN : Hid (n = l.length + k) := hid (by rw [← hn]; simp)
    by_cases hlt : n < 384
    · have hd : decide ((n : Int) < 384) = true := by simp; omega
      have HNL := hid hn
      clear hn hrd
      go_wp2_with (with_reducible refine wpl_append_one rfl _ _ rfl w.heap.size i0 hi hz0 hz1 hz2 (.slice A n c) _ rfl (hown.alloc _) ⟨wr.heap.size, 0, none⟩ 1 0 rfl ?_ ?_ ?_ ?_; intro v2 w2 hown2 hb2)
      rotate_left
      · exact hid (by simp [bv])
      · exact hid (by rw [HNL.out]; omega)
      · exact hid (by simp; omega)
      obtain ⟨A2, c2, rfl, hc2, _⟩ := hown2.shape
      go_roundw
      case rel =>
        refine ⟨k + 1, by have := HN.out; omega, ?_, (hbe.alloc hsz _).trans hb2⟩
        rw [List.replicate_succ', ← List.append_assoc]
        exact hown2
      case measure =>
        have := HNL.out
        simp only [lenV, List.length_append, List.length_singleton] at this ⊢
        omega
    · have hk2 : k = 384 - l.length := by have := HN.out; omega
      obtain rfl : n = 384 := by have := HN.out; omega
      subst hk2
      have HRD := hid hrd
      have HL := hid hn
      clear hrd hn hown
      go_wp2_with (with_reducible refine wpl_str rfl _ 56 9 rfl 5 Try.underlying56 Try.underlying5 Try.underlying9 A 384 c rfl wr.heap.size (l ++ List.replicate (384 - l.length) 0) ?_ HRD (hid HL.out.symm))
      go_ret
      exact ⟨rfl, hbe⟩

theorem whole_calls (s : ByteArray) (w : World) : Calls Try.prog 27 #[.string s] w (SE w (wholeS (sb s))) := by
  have hl := sb_len s
  by_cases h : s.size ≤ 384
  · have := whole_few (sb s) (by omega) s w rfl h
    unfold wholeS
    rwa [List.take_of_length_le (by omega)]
  · have := whole_many ((sb s).take 384) (by simp; omega) s (s.extract 0 384) w (by simp [sb]) rfl (by omega)
    unfold wholeS
    rw [show 384 - (sb s).length = 384 - ((sb s).take 384).length by simp; omega]
    exact this
end Go.Proofs.Ytkfgbjmadfnmkaa
