/-
  The walk of Mix: a text's first bytes, and another one's others.
-/
import Derived.Test.YtdkgpjmehdpliaaNew
namespace Go.Proofs.Ytdkgpjmehdpliaa
open Go.RowKit

theorem own_shape {w : World} {B : Nat} {e : TypeId} {v : Value} {n : Nat} {xs : List Value} (h : w.ownsRow B e 1 v n xs) :
    ∃ A c, v = .slice A n c ∧ n ≤ c ∧ xs.length = n ∧ Rd w w.heap.size A xs := by
  obtain ⟨h1, h2⟩ := h
  have h3 : xs.length = n := by omega
  subst h3
  rcases h2 with ⟨rfl, h0⟩ | ⟨g, cap, cur, rfl, a, b, c, d⟩
  · rw [h0]
    exact ⟨none, 0, rfl, Nat.le_refl _, rfl, by rw [List.eq_nil_of_length_eq_zero h0]; exact Rd.nil⟩
  · exact ⟨_, cap, rfl, c, rfl, Rd.of_own ⟨h1, .inr ⟨g, cap, cur, rfl, a, b, c, d⟩⟩⟩

def mixS (a b : List UInt8) (c : Nat) : List UInt8 := a.take c ++ b.drop c
theorem mixS_len (a b : List UInt8) (c : Nat) (ha : a.length = 384) (hb : b.length = 384) (hc : c ≤ 384) : (mixS a b c).length = 384 := by
  simp [mixS, ha, hb]; omega
theorem mixS_lo (a b : List UInt8) (c k : Nat) (ha : a.length = 384) (hk : k < c) (hc : c ≤ 384) : (mixS a b c)[k]? = a[k]? := by
  unfold mixS
  rw [List.getElem?_append_left (by simp [ha]; omega), List.getElem?_take, if_pos hk]
theorem mixS_hi (a b : List UInt8) (c k : Nat) (ha : a.length = 384) (hk : c ≤ k) (hc : c ≤ 384) : (mixS a b c)[k]? = b[k]? := by
  unfold mixS
  have hl : (a.take c).length = c := by simp [ha]; omega
  rw [List.getElem?_append_right (by omega), hl, List.getElem?_drop]
  congr 1
  omega
theorem take_next (m : List UInt8) (k : Nat) (x : UInt8) (h : m[k]? = some x) : m.take (k + 1) = m.take k ++ [x] := by
  obtain ⟨hk, rfl⟩ := List.getElem?_eq_some_iff.1 h
  exact List.take_succ_eq_append_getElem hk
theorem sb_at (s : ByteArray) (k : Nat) (h : k < s.size) : (sb s)[k]? = some (s[k]'h) := by
  rw [List.getElem?_eq_getElem (by rw [sb_len]; exact h)]
  rfl

set_option maxRecDepth 10000 in
set_option maxHeartbeats 1000000 in
theorem mix_any (a b : ByteArray) (c : Nat) (w : World) (ha : a.size = 384) (hb : b.size = 384) (hc : c ≤ 384) :
    Calls Try.prog 28 #[.string a, .string b, .int .i64 (c : Int)] w (NS w (mixS (sb a) (sb b) c)) := by
  obtain ⟨i0, hi, hz0, hz1, hz2⟩ := info_parts infoU8
  have hal : (sb a).length = 384 := by rw [sb_len]; exact ha
  have hbl : (sb b).length = 384 := by rw [sb_len]; exact hb
  have hml := mixS_len (sb a) (sb b) c hal hbl hc
  have HA := hid ha
  have HB := hid hb
  have hal' : (384 : Int) = (a.size : Int) := by omega
  clear ha hb hal'
  go_enter Try.func28, Try.ntmps28
  go_wp2_with fail
  go_loopw [7, 8] (fun out i wr => ∃ k : Nat, k ≤ 384 ∧ i = .int .i64 k ∧ wr.ownsRow w.heap.size 5 1 out k (bvs ((mixS (sb a) (sb b) c).take k)) ∧ Below w.heap.size w wr) (fun _ i _ => 384 - (intOf i).toNat)
  case atStart =>
    have h0 := World.ownsRow_lit (e := 5) (base := w.heap.size) (size := 1) w #[] 0 (Nat.le_refl _) (by decide) rfl
    exact ⟨0, by omega, rfl, by simpa [bvs] using h0, (Below.refl _ _).alloc (Nat.le_refl _) _⟩
  case round =>
    obtain ⟨k, hk, rfl, hown, hbe⟩ := hrel
    have hsz := hbe.size
    by_cases hlt : k < 384
    · have hka : k < a.size := by rw [HA.out]; exact hlt
      have hkb : k < b.size := by rw [HB.out]; exact hlt
      have hkI : (k : Int) < 384 := by omega
      have hd : decide ((k : Int) < 384) = true := by simp; omega
      by_cases hck : k < c
      · have hcI : (k : Int) < (c : Int) := by omega
        have HN := hid (take_next _ k _ ((mixS_lo (sb a) (sb b) c k hal hck hc).trans (sb_at a k hka)))
        clear hck
        go_wp2_with (with_reducible refine wpl_append rfl (.tmp 17) (.tmp 21) 59 rfl w.heap.size 5 i0 _ 1 1 Try.underlying59 hi hz0 hz1 hz2 rfl (by omega) _ k _ rfl (hown.alloc _) (wr.heap.size + 1) (some ⟨wr.heap.size, 0, none⟩) 1 1 [bv (a[k]'hka)] rfl ?_ ?_ ?_ ?_ ?_ ?_ ?_; intro v' w2 hown2 hb2 hg2)
        rotate_left
        · refine hid fun _ => ⟨_, _, rfl, by omega, ?_⟩
          intro j u hu
          match j, hu with
          | 0, hu => simp at hu; subst hu; simp [bv]
        · exact hid rfl
        · exact hid (by intro u hu; simp at hu; subst hu; rfl)
        · exact hid (le_maxLen (by omega))
        · exact hid (by omega)
        · exact hid (by simp; omega)
        go_roundw
        case rel =>
          refine ⟨k + 1, by omega, by go_num, ?_, (hbe.alloc hsz _).trans hb2⟩
          rw [HN.out, bvs_app]
          exact hown2
        case measure => simp [intOf]; omega
      · have hcI : (c : Int) ≤ (k : Int) := by omega
        have hdc : decide ((k : Int) < (c : Int)) = false := by simp; omega
        have HN := hid (take_next _ k _ ((mixS_hi (sb a) (sb b) c k hal (by omega) hc).trans (sb_at b k hkb)))
        clear hck
        go_wp2_with (with_reducible refine wpl_append rfl (.tmp 23) (.tmp 27) 59 rfl w.heap.size 5 i0 _ 1 1 Try.underlying59 hi hz0 hz1 hz2 rfl (by omega) _ k _ rfl (hown.alloc _) (wr.heap.size + 1) (some ⟨wr.heap.size, 0, none⟩) 1 1 [bv (b[k]'hkb)] rfl ?_ ?_ ?_ ?_ ?_ ?_ ?_; intro v' w2 hown2 hb2 hg2)
        rotate_left
        · refine hid fun _ => ⟨_, _, rfl, by omega, ?_⟩
          intro j u hu
          match j, hu with
          | 0, hu => simp at hu; subst hu; simp [bv]
        · exact hid rfl
        · exact hid (by intro u hu; simp at hu; subst hu; rfl)
        · exact hid (le_maxLen (by omega))
        · exact hid (by omega)
        · exact hid (by simp; omega)
        go_roundw
        case rel =>
          refine ⟨k + 1, by omega, by go_num, ?_, (hbe.alloc hsz _).trans hb2⟩
          rw [HN.out, bvs_app]
          exact hown2
        case measure => simp [intOf]; omega
    · obtain rfl : k = 384 := by omega
      obtain ⟨A, cc, rfl, hcc, hxl, hrd⟩ := own_shape hown
      rw [List.take_of_length_le (by omega)] at hrd
      have HR : Hid (Rd wr wr.heap.size A (bvs (mixS (sb a) (sb b) c))) := hid hrd
      have HL : Hid (384 = (mixS (sb a) (sb b) c).length) := hid hml.symm
      have HBE := hid hbe
      clear hrd hbe hown hxl hml
      go_wp2_with (with_reducible refine wpl_str rfl (.tmp 29) 59 9 rfl 5 Try.underlying59 Try.underlying5 Try.underlying9 A 384 cc rfl wr.heap.size (mixS (sb a) (sb b) c) ?_ HR HL)
      go_ret
      exact ⟨rfl, HBE.out.os, HBE.out.tape, HBE.out.output, HBE.out.size, fun k hk _ => HBE.out.block k hk⟩
end Go.Proofs.Ytdkgpjmehdpliaa
