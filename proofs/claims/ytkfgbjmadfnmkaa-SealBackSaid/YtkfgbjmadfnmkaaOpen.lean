/-
  The walks of package seal's Open and of the document's.
-/
import Derived.Test.YtkfgbjmadfnmkaaNext
namespace Go.Proofs.Ytkfgbjmadfnmkaa
open Go.RowKit
set_option maxRecDepth 10000

/-- what Open answers -/
def openS (l : List UInt8) : List UInt8 × Bool :=
  if l.length = 384 ∧ (ttS l 1 376).2.2 = 0 ∧ layS (l.getD 0 0) (ttS l 1 376).1 = l then ((ttS l 1 376).1, true) else ([], false)
/-- a text and whether there is one -/
def SB (w : World) (r : List UInt8 × Bool) (e : Ending) (w' : World) : Prop :=
  e = .returned (.tuple #[.string ⟨r.1.toArray⟩, .bool r.2]) ∧ Below w.heap.size w w'

theorem tt_len (l : List UInt8) (h : (ttS l 1 376).2.2 = 0) : (ttS l 1 376).1.length ≤ 376 := by
  unfold ttS at h ⊢
  split at h
  · rename_i h1; exact absurd h h1
  · split at h
    · cases h
    · rename_i h1 h2
      rw [if_neg h1, if_neg h2]
      unfold ttN
      split
      · simp
      · simp; omega
theorem bytes_rd {W : World} {g k : Nat} {s : ByteArray} (h : FRow W g 5 (bvs (sb s) ++ List.replicate k (.int .u8 0))) : Rd W (g + 1) (some ⟨g, 0, none⟩) (bvs (sb s)) := by
  have h1 := (h.rd (B := g + 1) (by omega)).take (bvs (sb s)).length
  rwa [List.take_left] at h1
theorem str_ne {a b : ByteArray} (h : a ≠ b) : (a.toList == b.toList) = false := by
  rw [beq_eq_false_iff_ne, ByteArray.toList_eq, ByteArray.toList_eq]
  intro e
  apply h
  rcases a with ⟨a⟩
  rcases b with ⟨b⟩
  simp only [Array.toList_inj] at e
  rw [e]
theorem mk_ne' {a : List UInt8} {b : ByteArray} (h : a ≠ sb b) : (⟨a.toArray⟩ : ByteArray) ≠ b := by
  intro e
  apply h
  rw [← e, sb_mk]
theorem first_of (s : ByteArray) (h : 0 < s.size) : (sb s).getD 0 0 = s[0] := by
  rw [List.getD, List.getElem?_eq_getElem (by rw [sb_len]; exact h)]
  rfl

set_option maxHeartbeats 1000000 in
theorem open_calls (s : ByteArray) (w : World) :
    Calls Try.prog 25 #[.string s] w (SB w (openS (sb s))) := by
  by_cases h384 : s.size = 384
  · have hsl := sb_len s
    have T := fun A c B W hr hc hB => tt_any A (sb s) 384 c B 1 376 W hr (by omega) (by omega) hc hB
    have hlen := tt_len (sb s)
    have hop : openS (sb s) = if (ttS (sb s) 1 376).2.2 = 0 ∧ layS ((sb s).getD 0 0) (ttS (sb s) 1 376).1 = sb s then ((ttS (sb s) 1 376).1, true) else ([], false) := by
      unfold openS
      simp [hsl, h384]
    have hfirst := first_of s (by omega)
    rw [hfirst] at hop
    generalize ttS (sb s) 1 376 = r at T hlen hop
    obtain ⟨t, n, e⟩ := r
    dsimp only at hlen hop
    have HT := hid T
    have HO := hid hop
    have h0 : (0 : Int) < s.size := by omega
    clear T hop hfirst hsl
    by_cases he : e = 0
    · subst he
      have hl := hlen rfl
      have HLay := hid (fun W => lay_calls (s[0]'(by omega)) ⟨t.toArray⟩ (by rw [← sb_len, sb_mk]; exact hl) W)
      rw [sb_mk] at HLay
      by_cases heq : layS (s[0]'(by omega)) t = sb s
      · have HR : Hid (openS (sb s) = (t, true)) := hid (by rw [HO.out, if_pos ⟨rfl, heq⟩])
        have hseq : (⟨(layS (s[0]'(by omega)) t).toArray⟩ : ByteArray) = s := by rw [heq, mk_sb]
        have HL2 : Hid (∀ W, Calls Try.prog 44 #[.int .u8 ((s[0]'(by omega)).toNat : Int), .string ⟨t.toArray⟩] W fun e W' => e = .returned (.string s) ∧ Below W.heap.size W W') := hid fun W => (HLay.out W).mono fun e W' hh => by rw [← hseq]; exact hh
        have hz := h384
        clear heq hlen HO hseq HLay
        go_enter Try.func25, Try.ntmps25
        go_wp2_with (first
          | (with_reducible refine wpl_bytes rfl _ _ _ rfl 5 Try.underlying9 Try.underlying56 Try.underlying5 s rfl ?_; intro g c k w1 HG HC HRow HB)
          | (go_at_call 47; refine (HT.out (some ⟨g, 0, none⟩) c (g + 1) w1 (bytes_rd HRow) (by have := HC.out; omega) (by have := HRow.lt; omega)).mono ?_; rintro e w2 ⟨rfl, hb2⟩)
          | (go_at_call 44; refine (HL2.out _).mono ?_; rintro e w3 ⟨rfl, hb3⟩))
        go_ret2
        rw [HR.out]
        exact ⟨rfl, (HB.trans (hb2.mono HB.size)).trans (hb3.mono (Nat.le_trans HB.size hb2.size))⟩
      · have HR : Hid (openS (sb s) = ([], false)) := hid (by rw [HO.out, if_neg (fun h => heq h.2)])
        have hne : (⟨(layS (s[0]'(by omega)) t).toArray⟩ : ByteArray) ≠ s := mk_ne' heq
        obtain ⟨L, hL, HL2⟩ : ∃ L : ByteArray, L ≠ s ∧ Hid (∀ W, Calls Try.prog 44 #[.int .u8 ((s[0]'(by omega)).toNat : Int), .string ⟨t.toArray⟩] W fun e W' => e = .returned (.string L) ∧ Below W.heap.size W W') := ⟨_, hne, hid fun W => HLay.out W⟩
        have hz := h384
        have hn2 := str_ne hL
        clear heq hlen HO HLay hne hL
        go_enter Try.func25, Try.ntmps25
        go_wp2_with (first
          | (with_reducible refine wpl_bytes rfl _ _ _ rfl 5 Try.underlying9 Try.underlying56 Try.underlying5 s rfl ?_; intro g c k w1 HG HC HRow HB)
          | (go_at_call 47; refine (HT.out (some ⟨g, 0, none⟩) c (g + 1) w1 (bytes_rd HRow) (by have := HC.out; omega) (by have := HRow.lt; omega)).mono ?_; rintro e w2 ⟨rfl, hb2⟩)
          | (go_at_call 44; refine (HL2.out _).mono ?_; rintro e w3 ⟨rfl, hb3⟩))
        go_ret2
        rw [HR.out]
        exact ⟨rfl, (HB.trans (hb2.mono HB.size)).trans (hb3.mono (Nat.le_trans HB.size hb2.size))⟩
    · have HR : Hid (openS (sb s) = ([], false)) := hid (by rw [HO.out, if_neg (fun h => he h.1)])
      have hne : (e != 0) = true := by simpa using he
      have hz := h384
      clear hlen HO he
      go_enter Try.func25, Try.ntmps25
      go_wp2_with (first
        | (with_reducible refine wpl_bytes rfl _ _ _ rfl 5 Try.underlying9 Try.underlying56 Try.underlying5 s rfl ?_; intro g c k w1 HG HC HRow HB)
        | (go_at_call 47; refine (HT.out (some ⟨g, 0, none⟩) c (g + 1) w1 (bytes_rd HRow) (by have := HC.out; omega) (by have := HRow.lt; omega)).mono ?_; rintro e w2 ⟨rfl, hb2⟩))
      go_ret2
      rw [HR.out]
      exact ⟨rfl, HB.trans (hb2.mono HB.size)⟩
  · have hne : ((s.size : Int) != 384) = true := by simp; omega
    have HR : Hid (openS (sb s) = ([], false)) := hid (by unfold openS; rw [if_neg (by rw [sb_len]; exact fun h => h384 h.1)])
    clear h384
    go_enter Try.func25, Try.ntmps25
    go_wp2_with fail
    go_ret2
    rw [HR.out]
    exact ⟨rfl, Below.refl _ _⟩

set_option maxHeartbeats 1000000 in
theorem ropen_calls (s : ByteArray) (w : World) :
    Calls Try.prog 26 #[.string s] w (SB w (openS (sb s))) := by
  by_cases h384 : s.size = 384
  · have hsl := sb_len s
    have T := fun A c B W hr hc hB => (fun (_ : 384 ≤ c) => rtt_any A (sb s) 384 c B 1 376 W hr (by omega) (by omega) hB) hc
    have hlen := tt_len (sb s)
    have hop : openS (sb s) = if (ttS (sb s) 1 376).2.2 = 0 ∧ layS ((sb s).getD 0 0) (ttS (sb s) 1 376).1 = sb s then ((ttS (sb s) 1 376).1, true) else ([], false) := by
      unfold openS
      simp [hsl, h384]
    have hfirst := first_of s (by omega)
    rw [hfirst] at hop
    generalize ttS (sb s) 1 376 = r at T hlen hop
    obtain ⟨t, n, e⟩ := r
    dsimp only at hlen hop
    have HT := hid T
    have HO := hid hop
    have h0 : (0 : Int) < s.size := by omega
    clear T hop hfirst hsl
    by_cases he : e = 0
    · subst he
      have hl := hlen rfl
      have HLay := hid (fun W => with_calls (s[0]'(by omega)) ⟨t.toArray⟩ (by rw [← sb_len, sb_mk]; exact hl) W)
      rw [sb_mk] at HLay
      by_cases heq : layS (s[0]'(by omega)) t = sb s
      · have HR : Hid (openS (sb s) = (t, true)) := hid (by rw [HO.out, if_pos ⟨rfl, heq⟩])
        have hseq : (⟨(layS (s[0]'(by omega)) t).toArray⟩ : ByteArray) = s := by rw [heq, mk_sb]
        have HL2 : Hid (∀ W, Calls Try.prog 46 #[.int .u8 ((s[0]'(by omega)).toNat : Int), .string ⟨t.toArray⟩] W fun e W' => e = .returned (.string s) ∧ Below W.heap.size W W') := hid fun W => (HLay.out W).mono fun e W' hh => by rw [← hseq]; exact hh
        have hz := h384
        clear heq hlen HO hseq HLay
        go_enter Try.func26, Try.ntmps26
        go_wp2_with (first
          | (with_reducible refine wpl_bytes rfl _ _ _ rfl 5 Try.underlying9 Try.underlying56 Try.underlying5 s rfl ?_; intro g c k w1 HG HC HRow HB)
          | (go_at_call 48; refine (HT.out (some ⟨g, 0, none⟩) c (g + 1) w1 (bytes_rd HRow) (by have := HC.out; omega) (by have := HRow.lt; omega)).mono ?_; rintro e w2 ⟨rfl, hb2⟩)
          | (go_at_call 46; refine (HL2.out _).mono ?_; rintro e w3 ⟨rfl, hb3⟩))
        go_ret2
        rw [HR.out]
        exact ⟨rfl, (HB.trans (hb2.mono HB.size)).trans (hb3.mono (Nat.le_trans HB.size hb2.size))⟩
      · have HR : Hid (openS (sb s) = ([], false)) := hid (by rw [HO.out, if_neg (fun h => heq h.2)])
        have hne : (⟨(layS (s[0]'(by omega)) t).toArray⟩ : ByteArray) ≠ s := mk_ne' heq
        obtain ⟨L, hL, HL2⟩ : ∃ L : ByteArray, L ≠ s ∧ Hid (∀ W, Calls Try.prog 46 #[.int .u8 ((s[0]'(by omega)).toNat : Int), .string ⟨t.toArray⟩] W fun e W' => e = .returned (.string L) ∧ Below W.heap.size W W') := ⟨_, hne, hid fun W => HLay.out W⟩
        have hz := h384
        have hn2 := str_ne hL
        clear heq hlen HO HLay hne hL
        go_enter Try.func26, Try.ntmps26
        go_wp2_with (first
          | (with_reducible refine wpl_bytes rfl _ _ _ rfl 5 Try.underlying9 Try.underlying56 Try.underlying5 s rfl ?_; intro g c k w1 HG HC HRow HB)
          | (go_at_call 48; refine (HT.out (some ⟨g, 0, none⟩) c (g + 1) w1 (bytes_rd HRow) (by have := HC.out; omega) (by have := HRow.lt; omega)).mono ?_; rintro e w2 ⟨rfl, hb2⟩)
          | (go_at_call 46; refine (HL2.out _).mono ?_; rintro e w3 ⟨rfl, hb3⟩))
        go_ret2
        rw [HR.out]
        exact ⟨rfl, (HB.trans (hb2.mono HB.size)).trans (hb3.mono (Nat.le_trans HB.size hb2.size))⟩
    · have HR : Hid (openS (sb s) = ([], false)) := hid (by rw [HO.out, if_neg (fun h => he h.1)])
      have hne : (e != 0) = true := by simpa using he
      have hz := h384
      clear hlen HO he
      go_enter Try.func26, Try.ntmps26
      go_wp2_with (first
        | (with_reducible refine wpl_bytes rfl _ _ _ rfl 5 Try.underlying9 Try.underlying56 Try.underlying5 s rfl ?_; intro g c k w1 HG HC HRow HB)
        | (go_at_call 48; refine (HT.out (some ⟨g, 0, none⟩) c (g + 1) w1 (bytes_rd HRow) (by have := HC.out; omega) (by have := HRow.lt; omega)).mono ?_; rintro e w2 ⟨rfl, hb2⟩))
      go_ret2
      rw [HR.out]
      exact ⟨rfl, HB.trans (hb2.mono HB.size)⟩
  · have hne : ((s.size : Int) != 384) = true := by simp; omega
    have HR : Hid (openS (sb s) = ([], false)) := hid (by unfold openS; rw [if_neg (by rw [sb_len]; exact fun h => h384 h.1)])
    clear h384
    go_enter Try.func26, Try.ntmps26
    go_wp2_with fail
    go_ret2
    rw [HR.out]
    exact ⟨rfl, Below.refl _ _⟩

end Go.Proofs.Ytkfgbjmadfnmkaa
