/-
  The walks of package seal's lay, and of the document's With: the one sealed sector of a byte and a text.
-/
import Derived.Test.YtkfgbjmadfnmkaaTtext
import Derived.Test.YtkfgbjmadfnmkaaRadd
import Derived.Test.YtkfgbjmadfnmkaaZeros
namespace Go.Proofs.Ytkfgbjmadfnmkaa
open Go.RowKit
set_option maxRecDepth 10000

/-- a text -/
def SE (w : World) (r : List UInt8) (e : Ending) (w' : World) : Prop := e = .returned (.string ⟨r.toArray⟩) ∧ Below w.heap.size w w'

/-- the bytes ahead of the sum -/
def headS (g : UInt8) (s : List UInt8) : List UInt8 := [g] ++ le s.length 2 ++ s ++ List.replicate (376 - s.length) 0
/-- the sum's bytes -/
def sumS (l : List UInt8) : List UInt8 := le (addS 0#32 l).toNat 4
/-- the sealed sector -/
def layS (g : UInt8) (s : List UInt8) : List UInt8 := headS g s ++ sumS (headS g s) ++ [g]
theorem headS_len (g : UInt8) (s : List UInt8) (h : s.length ≤ 376) : (headS g s).length = 379 := by simp [headS, le_len]; omega
theorem sumS_len (l : List UInt8) : (sumS l).length = 4 := le_len _ _
theorem layS_len (g : UInt8) (s : List UInt8) (h : s.length ≤ 376) : (layS g s).length = 384 := by simp [layS, headS_len g s h, sumS_len]

theorem own_below {w w' : World} {B e size n : Nat} {v : Value} {xs : List Value} (h : w.ownsRow B e size v n xs) (hb : Below w.heap.size w w') : w'.ownsRow B e size v n xs := by
  obtain ⟨h1, h2⟩ := h
  refine ⟨h1, ?_⟩
  rcases h2 with h2 | ⟨g, cap, cur, e1, a, b, c⟩
  · exact .inl h2
  · exact .inr ⟨g, cap, cur, e1, a, (hb.block g (Array.getElem?_eq_some_iff.1 b).1).trans b, c⟩
theorem own_base {w : World} {B B' e size n : Nat} {v : Value} {xs : List Value} (h : w.ownsRow B e size v n xs) (hB : B' ≤ B) : w.ownsRow B' e size v n xs := by
  obtain ⟨h1, h2⟩ := h
  refine ⟨h1, ?_⟩
  rcases h2 with h2 | ⟨g, cap, cur, e1, a, b⟩
  · exact .inl h2
  · exact .inr ⟨g, cap, cur, e1, by omega, b⟩
theorem bvs_zero (n : Nat) : List.replicate n (Value.int .u8 0) = bvs (List.replicate n 0) := by simp [bvs, bv]

/-- PutText behind one byte -/
theorem pt_one (g : UInt8) (s : ByteArray) (hs : s.size ≤ 376) (W : World) : Calls Try.prog 57 #[.slice (some ⟨W.heap.size, 0, none⟩) 1 1, .string s] (W.alloc (.cells #[.int .u8 (g.toNat : Int)] 5))
    fun e w' => ∃ A c, e = .returned (.tuple #[.slice A (s.size + 3) c, .int .i64 0]) ∧ w'.ownsRow W.heap.size 5 1 (.slice A (s.size + 3) c) (s.size + 3) (bvs ([g] ++ le s.size 2 ++ sb s)) ∧ Below W.heap.size W w' := by
  have h := pt_ok (some ⟨W.heap.size, 0, none⟩) [g] 1 1 (W.heap.size + 1) s (W.alloc (.cells #[.int .u8 (g.toNat : Int)] 5)) (Row.rd (cs := bvs [g]) (Row.new W 5 _) (by omega)) rfl (by simp) (by omega) (by omega)
  refine h.mono fun e w' hh => ?_
  obtain ⟨A, c, e1, e2, e3⟩ := hh.len (n := s.size + 3) (by simp [le_len, sb_len]; omega)
  exact ⟨A, c, e1, own_base e2 (by simp), ((Below.refl _ _).alloc (Nat.le_refl _) _).trans (e3.mono (by simp))⟩
theorem rpt_one (g : UInt8) (s : ByteArray) (hs : s.size ≤ 376) (W : World) : Calls Try.prog 60 #[.slice (some ⟨W.heap.size, 0, none⟩) 1 1, .string s] (W.alloc (.cells #[.int .u8 (g.toNat : Int)] 5))
    fun e w' => ∃ A c, e = .returned (.tuple #[.slice A (s.size + 3) c, .int .i64 0]) ∧ w'.ownsRow W.heap.size 5 1 (.slice A (s.size + 3) c) (s.size + 3) (bvs ([g] ++ le s.size 2 ++ sb s)) ∧ Below W.heap.size W w' := by
  have h := rpt_ok (some ⟨W.heap.size, 0, none⟩) [g] 1 1 (W.heap.size + 1) s (W.alloc (.cells #[.int .u8 (g.toNat : Int)] 5)) (Row.rd (cs := bvs [g]) (Row.new W 5 _) (by omega)) rfl (by simp) (by omega) (by omega)
  refine h.mono fun e w' hh => ?_
  obtain ⟨A, c, e1, e2, e3⟩ := hh.len (n := s.size + 3) (by simp [le_len, sb_len]; omega)
  exact ⟨A, c, e1, own_base e2 (by simp), ((Below.refl _ _).alloc (Nat.le_refl _) _).trans (e3.mono (by simp))⟩

/-- Put of a sum -/
theorem put_sum (A : Option Addr) (bs : List UInt8) (c B : Nat) (x : BitVec 32) (W : World) (hr : Rd W B A (bvs bs)) (hl : bs.length = 379) (hB : B ≤ W.heap.size) :
    Calls Try.prog 58 #[.slice A 379 c, .int .u64 (x.toNat : Int), .int .i64 4] W
    fun e w' => ∃ A c, e = .returned (.tuple #[.slice A 383 c, .int .i64 0]) ∧ w'.ownsRow W.heap.size 5 1 (.slice A 383 c) 383 (bvs (bs ++ le x.toNat 4)) ∧ Below W.heap.size W w' := by
  have h := put_any A bs 379 c x.toNat B 4 W hr hl.symm hB (by omega)
  have e : putS bs x.toNat 4 = (bs ++ le x.toNat 4, 0) := by
    unfold putS
    rw [if_pos ⟨by omega, by omega, Nat.div_eq_of_lt x.isLt⟩]
    rfl
  rw [e] at h
  exact h.mono fun e w' hh => hh.len (by simp [le_len, hl])
theorem rput_sum (A : Option Addr) (bs : List UInt8) (c B : Nat) (x : BitVec 32) (W : World) (hr : Rd W B A (bvs bs)) (hl : bs.length = 379) (hB : B ≤ W.heap.size) :
    Calls Try.prog 61 #[.slice A 379 c, .int .u64 (x.toNat : Int), .int .i64 4] W
    fun e w' => ∃ A c, e = .returned (.tuple #[.slice A 383 c, .int .i64 0]) ∧ w'.ownsRow W.heap.size 5 1 (.slice A 383 c) 383 (bvs (bs ++ le x.toNat 4)) ∧ Below W.heap.size W w' := by
  have h := rput_any A bs 379 c x.toNat B 4 W hr hl.symm hB (by omega) (hid (Nat.lt_trans x.isLt (by omega)))
  have e : putS bs x.toNat 4 = (bs ++ le x.toNat 4, 0) := by
    unfold putS
    rw [if_pos ⟨by omega, by omega, Nat.div_eq_of_lt x.isLt⟩]
    rfl
  rw [e] at h
  exact h.mono fun e w' hh => hh.len (by simp [le_len, hl])

theorem sum_of (b : List UInt8) (hb : b.length = 379) (W : World) : Calls Try.prog 59 #[.string ⟨b.toArray⟩] W fun e w' => e = .returned (.int .u32 ((addS 0#32 b).toNat : Int)) ∧ Below W.heap.size W w' := by
  have h := sum_calls ⟨b.toArray⟩ W (by rw [← sb_len, sb_mk]; omega)
  rw [sb_mk] at h
  exact h
theorem rsum_of (b : List UInt8) (hb : b.length = 379) (W : World) : Calls Try.prog 62 #[.string ⟨b.toArray⟩] W fun e w' => e = .returned (.int .u32 ((addS 0#32 b).toNat : Int)) ∧ W = w' := by
  have h := rsum_calls ⟨b.toArray⟩ W (by rw [← sb_len, sb_mk]; omega)
  rw [sb_mk] at h
  exact h

set_option maxHeartbeats 1000000 in
theorem lay_calls (g : UInt8) (s : ByteArray) (hs : s.size ≤ 376) (w : World) :
    Calls Try.prog 44 #[.int .u8 (g.toNat : Int), .string s] w (SE w (layS g (sb s))) := by
  obtain ⟨i0, hi, hz0, hz1, hz2⟩ := info_parts u8info
  have P1 := hid (pt_one g s hs w)
  have hsl := sb_len s
  have hb := headS_len g (sb s) (by omega)
  have hhead : bvs ([g] ++ le s.size 2 ++ sb s) ++ List.replicate (376 - s.size) (.int .u8 0) = bvs (headS g (sb s)) := by
    rw [bvs_zero, ← bvs_app, headS, hsl]
  have P2 := hid (sum_of (headS g (sb s)) hb)
  have hx : (addS 0#32 (headS g (sb s))).toNat < 4294967296 := (addS 0#32 (headS g (sb s))).isLt
  have P3 := hid (fun A c B W hr hB => put_sum A (headS g (sb s)) c B (addS 0#32 (headS g (sb s))) W hr hb hB)
  have hfin : layS g (sb s) = headS g (sb s) ++ le (addS 0#32 (headS g (sb s))).toNat 4 ++ [g] := rfl
  have hlen : 383 + 1 = (headS g (sb s) ++ le (addS 0#32 (headS g (sb s))).toNat 4 ++ [g]).length := by simp [hb, le_len]
  generalize headS g (sb s) = H at hb hhead P2 hx P3 hfin hlen
  generalize addS 0#32 H = x at P2 hx P3 hfin hlen
  have HH := hid hhead
  have HF := hid hfin
  have HB := hid hb
  have HL := hid hlen
  have HS := hid hs
  have HE : Hid (bvs (H ++ le x.toNat 4) ++ [.int .u8 (g.toNat : Int)] = bvs (layS g (sb s))) := hid (by rw [hfin, bvs_app _ [g]]; rfl)
  clear hhead hfin hb hsl hlen
  go_enter Try.func44, Try.ntmps44
  have HN : Hid (s.size + 3 + (376 - s.size) = 379) := hid (by have := HS.out; omega)
  go_wp2_with (first
    | (go_at_call 57; refine P1.out.mono ?_; rintro e w1 ⟨A1, c1, rfl, hown1, hb1⟩)
    | (with_reducible refine wpl_append_zeros rfl _ _ 56 3 rfl w.heap.size 5 i0 .i64 Try.underlying56 Try.underlying3 hi hz0 hz1 hz2 (.slice A1 (s.size + 3) c1) (s.size + 3) _ rfl hown1 _ (376 - s.size) rfl ?_ ?_ ?_ ?_ ?_; intro v2 w2 hown2 hb2 hg2; rw [HH.out, HN.out] at hown2; obtain ⟨A2, c2, rfl, -, -, hrd2⟩ := own_shape hown2)
    | (with_reducible refine wpl_str rfl _ 56 9 rfl 5 Try.underlying56 Try.underlying5 Try.underlying9 A2 379 c2 rfl w2.heap.size H ?_ (hid hrd2) (hid HB.out.symm))
    | (go_at_call 59; refine (P2.out _).mono ?_; rintro e w3 ⟨rfl, hb3⟩)
    | (go_at_call 58; refine (P3.out A2 c2 w2.heap.size _ (hrd2.below hb3 (Nat.le_refl _)) hb3.size).mono ?_; rintro e w4 ⟨A4, c4, rfl, hown4, hb4⟩)
    | (with_reducible refine wpl_append rfl _ _ 56 rfl w3.heap.size 5 i0 _ 1 1 Try.underlying56 hi hz0 hz1 hz2 rfl (by omega) (.slice A4 383 c4) 383 _ rfl (hown4.alloc _) (w4.heap.size + 1) (some ⟨w4.heap.size, 0, none⟩) 1 1 [.int .u8 (g.toNat : Int)] rfl ?_ ?_ ?_ ?_ ?_ ?_ ?_; intro v5 w5 hown5 hb5 hg5; rw [HE.out] at hown5; obtain ⟨A5, c5, rfl, -, -, hrd5⟩ := own_shape hown5)
    | (with_reducible refine wpl_str rfl _ 56 9 rfl 5 Try.underlying56 Try.underlying5 Try.underlying9 A5 (383 + 1) c5 rfl w5.heap.size (layS g (sb s)) ?_ (hid hrd5) (hid (by rw [HF.out]; exact HL.out))))
  rotate_left
  · refine hid fun _ => ⟨_, _, rfl, by omega, ?_⟩
    intro j u hu
    match j, hu with
    | 0, hu => simp at hu; subst hu; simp
  · exact hid rfl
  · exact hid (by intro u hu; simp at hu; subst hu; rfl)
  · exact hid (le_maxLen (by omega))
  · exact hid (by omega)
  · exact hid (by have := hb4.size; simp; omega)
  · exact hid (by have := HS.out; omega)
  · exact hid (by omega)
  · exact hid (by have := HS.out; omega)
  · exact hid hb1.size
  have hbe2 := hb1.trans hb2
  go_ret
  refine ⟨rfl, ?_⟩
  have s2 := hbe2.size
  have s3 := hb3.size
  have s4 := hb4.size
  exact ((hbe2.trans (hb3.mono s2)).trans (hb4.mono (by omega))).trans ((Below.refl _ _).alloc (by omega) _ |>.trans (hb5.mono (by omega)))
end Go.Proofs.Ytkfgbjmadfnmkaa
