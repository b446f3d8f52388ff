/-
  The walks of package crc's inner functions: a step, the table, a chain's step.
-/
import Derived.Test.YthlapdijnfcekaaRows
import Derived.Test.YthlapdijnfcekaaG01
import Derived.Test.YthlapdijnfcekaaG04
import Derived.Test.YthlapdijnfcekaaG03
namespace Go.Proofs.Ythlapdijnfcekaa
open Go.RowKit
set_option maxRecDepth 10000

theorem ret_int {k : IntKind} {a b : Int} (h : a = b) : Ending.returned (.int k a) = .returned (.int k b) := by rw [h]
theorem rs_calls (x : BitVec 32) (w : World) :
    Calls Try.prog 64 #[.int .u32 (x.toNat : Int)] w fun e w' => e = .returned (.int .u32 ((rs x).toNat : Int)) ∧ w = w' := by
  have h1 : x.toNat < 4294967296 := x.isLt
  have HC := hid (rs_code x)
  go_enter Try.func64, Try.ntmps64
  go_wp2
  go_ret
  exact ⟨ret_int HC.out, rfl⟩
theorem mod2_true (x : BitVec 32) (h : x.toNat % 2 = 1) : (((x.toNat : Int) % 2) == 1) = true := by simp; omega
theorem mod2_false (x : BitVec 32) (h : ¬ x.toNat % 2 = 1) : (((x.toNat : Int) % 2) == 1) = false := by simp; omega
/-- the table's first k entries; the others are none -/
def tab (k : Nat) : List Value := (List.range k).map (fun i => Value.int .u32 ((rsn 8 (BitVec.ofNat 32 i)).toNat : Int)) ++ List.replicate (256 - k) (.int .u32 0)
theorem tab_len (k : Nat) (h : k ≤ 256) : (tab k).length = 256 := by simp [tab]; omega
theorem tab_zero : tab 0 = List.replicate 256 (.int .u32 0) := by simp only [tab, List.range_zero, List.map_nil, List.nil_append, Nat.sub_zero]
theorem tab_set (k : Nat) (h : k < 256) : (tab k).set k (.int .u32 ((rsn 8 (BitVec.ofNat 32 k)).toNat : Int)) = tab (k + 1) := by
  apply List.ext_getElem?
  intro j
  rw [List.getElem?_set]
  by_cases hj : k = j
  · subst hj
    rw [if_pos rfl, if_pos (by rw [tab_len k (by omega)]; exact h), tab, List.getElem?_append_left (by simp)]
    simp
  · rw [if_neg hj]
    by_cases hlt : j < k
    · rw [tab, tab, List.getElem?_append_left (by simpa using hlt), List.getElem?_append_left (by simp; omega)]
      simp [List.getElem?_range hlt, List.getElem?_range (show j < k + 1 by omega)]
    · rw [tab, tab, List.getElem?_append_right (by simp; omega), List.getElem?_append_right (by simp; omega)]
      simp [List.getElem?_replicate]
      by_cases h2 : j < 256
      · rw [if_pos (by omega), if_pos (by omega)]
      · rw [if_neg (by omega), if_neg (by omega)]
theorem tab_get (i : Nat) (h : i < 256) : (tab 256)[i]? = some (.int .u32 ((rsn 8 (BitVec.ofNat 32 i)).toNat : Int)) := by
  rw [tab, List.getElem?_append_left (by simpa using h)]
  simp [List.getElem?_range h]
theorem tab_one : ∀ u ∈ tab 256, u.oneCell' = true := by
  intro u hu
  simp only [tab, List.mem_append, List.mem_map, List.mem_replicate] at hu
  rcases hu with ⟨i, _, rfl⟩ | ⟨_, rfl⟩ <;> rfl
def z256 : Array Value := (List.replicate 256 (.int .u32 0)).toArray
theorem zero256 (w : World) : (zeroValue 103).run Try.prog w = .ok (.agg z256) w := by kernel_rfl
theorem z256_list : z256.toList = tab 0 := by rw [tab_zero]; rfl
set_option maxRecDepth 100000 in
set_option maxHeartbeats 400000 in
theorem table_calls (w : World) :
    Calls Try.prog 63 #[] w fun e w' => e = .returned (.agg (tab 256).toArray) ∧ Below w.heap.size w w' := by
  have hz := zero256
  go_enter Try.func63, Try.ntmps63
  go_wp2_with fail
  go_loopw [4] (fun i wr => ∃ k : Nat, k ≤ 256 ∧ i = .int .i64 k ∧ Row wr w.heap.size 103 (tab 0) ∧ Row wr (w.heap.size + 1) 103 (tab k) ∧ Below w.heap.size w wr) (fun i _ => 256 - (intOf i).toNat)
  case atStart =>
    have h1 := Row.new w 103 z256
    have h2 := Row.new (w.alloc (.cells z256 103)) 103 z256
    rw [z256_list] at h1 h2
    simp only [World.alloc, Array.size_push] at h2
    exact ⟨0, by omega, rfl, h1.alloc _, h2, ((Below.refl _ _).alloc (Nat.le_refl _) _).alloc (by simp) _⟩
  case round =>
    obtain ⟨k, hk, rfl, hr0, hr1, hbe⟩ := hrel
    by_cases hlt : k < 256
    · obtain ⟨u, hu⟩ : ∃ u, (tab k)[k]? = some u := ⟨_, List.getElem?_eq_getElem (by rw [tab_len k hk]; exact hlt)⟩
      have hc := (hr1.cell k).trans hu
      have hf := hr1.frozen k
      have hst := hr1.set_ k (.int .u32 ((rsn 8 (BitVec.ofNat 32 k)).toNat : Int))
      have hst0 := hr0.far (p := ⟨w.heap.size + 1, k, none⟩) (by simp) (.int .u32 ((rsn 8 (BitVec.ofNat 32 k)).toNat : Int))
      have hb2 := hbe.setCell (p := ⟨w.heap.size + 1, k, none⟩) (by simp) (.int .u32 ((rsn 8 (BitVec.ofNat 32 k)).toNat : Int))
      rw [tab_set k hlt] at hst
      have HS := hid hst
      have HS0 := hid hst0
      have HB := hid hb2
      clear hst hr0 hr1 hst0 hb2 hbe hu
      have hd : decide ((k : Int) < 256) = true := by simp; omega
      go_wp2_with fail
      go_loop [3, 9] (fun r i => ∃ j : Nat, j ≤ 8 ∧ i = .int .i64 j ∧ r = .int .u32 ((rsn j (BitVec.ofNat 32 k)).toNat : Int)) (fun _ i => 8 - (intOf i).toNat)
      case atStart => exact ⟨0, by omega, rfl, by simp [rsn]; omega⟩
      case round =>
        obtain ⟨j, hj, rfl, rfl⟩ := hrel
        by_cases hjl : j < 8
        · go_wp2_with (go_at_call 64; refine (rs_calls _ _).mono ?_; rintro e w' ⟨rfl, rfl⟩)
          go_round
          case rel => exact ⟨j + 1, by omega, by go_num, rfl⟩
          case measure => simp [intOf]; omega
        · obtain rfl : j = 8 := by omega
          go_wp2_with fail
          go_roundw
          case rel => exact ⟨k + 1, by omega, by go_num, HS0.out, HS.out, HB.out⟩
          case measure => simp [intOf]; omega
    · obtain rfl : k = 256 := by omega
      have HT : Hid ((tab 256).toArray.size = 256) := hid (by simpa using tab_len 256 (by omega))
      have HR1 := hid hr1
      have HR0 := hid hr0
      have hb0 := hr0.lt
      clear hr0 hr1
      go_wp2_with (first
        | (refine wpList_load_row rfl 103 (.tmp 1) rfl (w.heap.size + 1) rfl 103 (tab 256).toArray (0, 0) _ HR1.out Try.underlying103 rfl (by rw [HT.out]; kernel_rfl) ?_)
        | (refine wpList_store_row rfl 103 (.tmp 0) (.tmp 18) rfl w.heap.size (tab 256).toArray rfl rfl 103 (tab 0).toArray HR0.out (by rw [HT.out]; kernel_rfl) (by rw [HT.out]; simpa using tab_len 0 (by omega)) ?_ ?_))
      · rw [Array.all_eq_true']
        intro u hu
        exact tab_one u (by simpa using hu)
      · have hg := setRow_heap wr w.heap.size _ (tab 256).toArray 103 (0, 0) HR0.out
        exact bodyPost_ret (v := .agg (tab 256).toArray) (results_cell_row rfl _ _ w.heap.size 103 (tab 256).toArray (0, 0) _ rfl hg Try.underlying103 rfl (by rw [HT.out]; kernel_rfl)) rfl
          ⟨rfl, hbe.trans (below_grown (grownBy_setRow wr w.heap.size _) (Nat.le_refl _) (by omega))⟩
end Go.Proofs.Ythlapdijnfcekaa
/-
  The walks of Add and Sum, and of the answers held against them.
-/
namespace Go.Proofs.Ythlapdijnfcekaa
open Go.RowKit
set_option maxRecDepth 10000

/-- what Add answers -/
def addS (x : BitVec 32) (l : List UInt8) : BitVec 32 := ~~~ byAll (~~~x) l
set_option maxRecDepth 100000 in
set_option maxHeartbeats 400000 in
theorem add_calls (x : BitVec 32) (s : ByteArray) (w : World) (hs : s.size ≤ 1125899906842624) :
    Calls Try.prog 62 #[.int .u32 (x.toNat : Int), .string s] w fun e w' => e = .returned (.int .u32 ((addS x (sb s)).toNat : Int)) ∧ Below w.heap.size w w' := by
  have hz := zero256
  have HT : Hid ((tab 256).toArray.size = 256) := hid (by simpa using tab_len 256 (by omega))
  have HZ : Hid (z256.size = 256) := hid (by rfl)
  have hsg : IntKind.u32.signed = false := rfl
  have hmx : IntKind.u32.max = 4294967295 := rfl
  go_enter Try.func62, Try.ntmps62
  go_wp2_with (first
    | (go_at_call 63; refine (table_calls _).mono ?_; rintro e w1 ⟨rfl, hb1⟩)
    | (refine wpList_store_row rfl 103 (.tmp 5) (.tmp 9) rfl w1.heap.size (tab 256).toArray rfl rfl 103 z256 (heap_alloc_new _ _) (by rw [HT.out]; kernel_rfl) (by rw [HT.out, HZ.out]) ?_ ?_)
    | (with_reducible refine wpl_bytes rfl _ _ _ rfl 5 Try.underlying9 Try.underlying61 Try.underlying5 s rfl ?_; intro g c k w2 HG HC HR HB))

  · rw [Array.all_eq_true']
    intro u hu
    exact tab_one u (by simpa using hu)
  have hb2 : Below w.heap.size w w2 := ((hb1.alloc hb1.size _).trans (below_grown (grownBy_setRow _ w1.heap.size _) (hb1.size) (by simp; have := hb1.size; omega))).trans (HB.mono (by simp [World.setRow]; have := hb1.size; omega))
  have hT : Row w2 w1.heap.size 103 (tab 256) := Row.below (by
    have := setRow_heap (w1.alloc (.cells z256 103)) w1.heap.size _ (tab 256).toArray 103 (0, 0) (heap_alloc_new _ _)
    exact this) HB (by simp [World.setRow])
  have HB2 := hid hb2
  have HT2 := hid hT
  have HS := hid (sb_len s)
  clear hb2 hT HB hb1
  have hn := not_code x
  go_loop [6, 15] (fun r i => ∃ k : Nat, k ≤ s.size ∧ i = .int .i64 k ∧ r = .int .u32 ((byAll (~~~x) ((sb s).take k)).toNat : Int)) (fun _ i => s.size - (intOf i).toNat)
  case atStart => exact ⟨0, by omega, rfl, by rw [hn]; rfl⟩
  case round =>
    obtain ⟨k, hk, rfl, rfl⟩ := hrel
    by_cases hlt : k < s.size
    · have hkl : k < (sb s).length := by rw [HS.out]; exact hlt
      have hc := HR.cell k
      rw [List.getElem?_append_left (by rw [bvs_len]; exact hkl)] at hc
      simp only [bvs, List.getElem?_map, List.getElem?_eq_getElem hkl, Option.map_some, bv] at hc
      have hstep : byAll (~~~x) ((sb s).take (k + 1)) = byStep (byAll (~~~x) ((sb s).take k)) (sb s)[k] := by
        rw [List.take_succ_eq_append_getElem hkl, byAll_app]; rfl
      generalize hb : (sb s)[k] = b at hc hstep
      generalize hx : byAll (~~~x) ((sb s).take k) = r at hstep ⊢
      have h1 : r.toNat < 4294967296 := r.isLt
      have h2 : b.toNat < 256 := UInt8.toNat_lt b
      have hix := idx_code r b
      have htc := tab_code r b
      generalize hm : (r.setWidth 8 ^^^ b.toBitVec).toNat = m at hix htc
      have hm2 : m < 256 := by rw [← hm]; exact BitVec.isLt _
      have hcell := (HT2.out.cell m).trans (tab_get m hm2)
      have HST := hid hstep
      have HTC := hid htc
      clear hb hx hstep htc hm
      go_wp2_with fail
      go_round
      case rel => exact ⟨k + 1, by omega, by go_num, by rw [HST.out, HTC.out]⟩
      case measure => simp [intOf]; omega
    · obtain rfl : k = s.size := by omega
      have hxt : byAll (~~~x) ((sb s).take s.size) = byAll (~~~x) (sb s) := by rw [List.take_of_length_le (by rw [HS.out]; exact Nat.le_refl _)]
      have hn2 := not_code (byAll (~~~x) (sb s))
      rw [hxt]
      have HN := hid hn2
      clear hn2 hxt
      go_wp2_with fail
      go_ret
      exact ⟨ret_int HN.out, HB2.out⟩
end Go.Proofs.Ythlapdijnfcekaa
/-
  The walks of Sum, and of the document's Add and Sum.
-/
namespace Go.Proofs.Ythlapdijnfcekaa
open Go.RowKit
set_option maxRecDepth 10000

theorem u32_zero : ((0#32 : BitVec 32).toNat : Int) = 0 := rfl
set_option maxHeartbeats 400000 in
theorem sum_calls (s : ByteArray) (w : World) (hs : s.size ≤ 1125899906842624) :
    Calls Try.prog 59 #[.string s] w fun e w' => e = .returned (.int .u32 ((addS 0#32 (sb s)).toNat : Int)) ∧ Below w.heap.size w w' := by
  have P := fun W => add_calls 0#32 s W hs
  simp only [u32_zero] at P
  have H := hid P
  clear P
  go_enter Try.func59, Try.ntmps59
  go_wp2_with (go_at_call 62; refine (H.out _).mono ?_; rintro e w1 ⟨rfl, hb1⟩)
  go_ret
  exact ⟨rfl, hb1⟩
theorem u8_up32 (b : UInt8) : ((b.toNat : Nat) : Int) = ((b.toBitVec.setWidth 32).toNat : Int) := by
  rw [BitVec.toNat_setWidth, Nat.mod_eq_of_lt]
  · rfl
  · have : b.toBitVec.toNat < 2 ^ 8 := b.toBitVec.isLt
    omega
theorem in_code (r : BitVec 32) (b : UInt8) : bits .xor .u32 (r.toNat : Int) (b.toNat : Int) = ((r ^^^ b.toBitVec.setWidth 32).toNat : Int) := by
  rw [u8_up32, xor32]
theorem less_nat (x : BitVec 32) : 4294967295 - x.toNat = (~~~x).toNat := by
  rw [BitVec.toNat_not]
end Go.Proofs.Ythlapdijnfcekaa
/-
  The walks of package seal's lay, and of the document's With: the one sealed sector of a byte and a text.
-/
namespace Go.Proofs.Ythlapdijnfcekaa
open Go.RowKit
set_option maxRecDepth 10000

/-- a text -/
def SE (w : World) (r : List UInt8) (e : Ending) (w' : World) : Prop := e = .returned (.string ⟨r.toArray⟩) ∧ Below w.heap.size w w'
/-- the bytes ahead of the sum -/
def headS (g : UInt8) (s : List UInt8) : List UInt8 := [g] ++ le s.length 2 ++ s ++ List.replicate (376 - s.length) 0
/-- the sum's bytes -/
def sumS (l : List UInt8) : List UInt8 := le (addS 0#32 l).toNat 4
/-- the sealed sector -/
def layS (g : UInt8) (s : List UInt8) : List UInt8 := headS g s ++ sumS (headS g s) ++ [g]
theorem headS_len (g : UInt8) (s : List UInt8) (h : s.length ≤ 376) : (headS g s).length = 379 := by simp [headS, le_len]; omega
theorem sumS_len (l : List UInt8) : (sumS l).length = 4 := le_len _ _
theorem layS_len (g : UInt8) (s : List UInt8) (h : s.length ≤ 376) : (layS g s).length = 384 := by simp [layS, headS_len g s h, sumS_len]
theorem own_below {w w' : World} {B e size n : Nat} {v : Value} {xs : List Value} (h : w.ownsRow B e size v n xs) (hb : Below w.heap.size w w') : w'.ownsRow B e size v n xs := by
  obtain ⟨h1, h2⟩ := h
  refine ⟨h1, ?_⟩
  rcases h2 with h2 | ⟨g, cap, cur, e1, a, b, c⟩
  · exact .inl h2
  · exact .inr ⟨g, cap, cur, e1, a, (hb.block g (Array.getElem?_eq_some_iff.1 b).1).trans b, c⟩
theorem own_base {w : World} {B B' e size n : Nat} {v : Value} {xs : List Value} (h : w.ownsRow B e size v n xs) (hB : B' ≤ B) : w.ownsRow B' e size v n xs := by
  obtain ⟨h1, h2⟩ := h
  refine ⟨h1, ?_⟩
  rcases h2 with h2 | ⟨g, cap, cur, e1, a, b⟩
  · exact .inl h2
  · exact .inr ⟨g, cap, cur, e1, by omega, b⟩
theorem bvs_zero (n : Nat) : List.replicate n (Value.int .u8 0) = bvs (List.replicate n 0) := by simp [bvs, bv]
/-- PutText behind one byte -/
theorem pt_one (g : UInt8) (s : ByteArray) (hs : s.size ≤ 376) (W : World) : Calls Try.prog 57 #[.slice (some ⟨W.heap.size, 0, none⟩) 1 1, .string s] (W.alloc (.cells #[.int .u8 (g.toNat : Int)] 5))
    fun e w' => ∃ A c, e = .returned (.tuple #[.slice A (s.size + 3) c, .int .i64 0]) ∧ w'.ownsRow W.heap.size 5 1 (.slice A (s.size + 3) c) (s.size + 3) (bvs ([g] ++ le s.size 2 ++ sb s)) ∧ Below W.heap.size W w' := by
  have h := pt_ok (some ⟨W.heap.size, 0, none⟩) [g] 1 1 (W.heap.size + 1) s (W.alloc (.cells #[.int .u8 (g.toNat : Int)] 5)) (Row.rd (cs := bvs [g]) (Row.new W 5 _) (by omega)) rfl (by simp) (by omega) (by omega)
  refine h.mono fun e w' hh => ?_
  obtain ⟨A, c, e1, e2, e3⟩ := hh.len (n := s.size + 3) (by simp [le_len, sb_len]; omega)
  exact ⟨A, c, e1, own_base e2 (by simp), ((Below.refl _ _).alloc (Nat.le_refl _) _).trans (e3.mono (by simp))⟩
/-- Put of a sum -/
theorem put_sum (A : Option Addr) (bs : List UInt8) (c B : Nat) (x : BitVec 32) (W : World) (hr : Rd W B A (bvs bs)) (hl : bs.length = 379) (hB : B ≤ W.heap.size) :
    Calls Try.prog 58 #[.slice A 379 c, .int .u64 (x.toNat : Int), .int .i64 4] W
    fun e w' => ∃ A c, e = .returned (.tuple #[.slice A 383 c, .int .i64 0]) ∧ w'.ownsRow W.heap.size 5 1 (.slice A 383 c) 383 (bvs (bs ++ le x.toNat 4)) ∧ Below W.heap.size W w' := by
  have h := put_any A bs 379 c x.toNat B 4 W hr hl.symm hB (by omega)
  have e : putS bs x.toNat 4 = (bs ++ le x.toNat 4, 0) := by
    unfold putS
    rw [if_pos ⟨by omega, by omega, Nat.div_eq_of_lt x.isLt⟩]
    rfl
  rw [e] at h
  exact h.mono fun e w' hh => hh.len (by simp [le_len, hl])
theorem sum_of (b : List UInt8) (hb : b.length = 379) (W : World) : Calls Try.prog 59 #[.string ⟨b.toArray⟩] W fun e w' => e = .returned (.int .u32 ((addS 0#32 b).toNat : Int)) ∧ Below W.heap.size W w' := by
  have h := sum_calls ⟨b.toArray⟩ W (by rw [← sb_len, sb_mk]; omega)
  rw [sb_mk] at h
  exact h
set_option maxHeartbeats 1000000 in
theorem lay_calls (g : UInt8) (s : ByteArray) (hs : s.size ≤ 376) (w : World) :
    Calls Try.prog 49 #[.int .u8 (g.toNat : Int), .string s] w (SE w (layS g (sb s))) := by
  obtain ⟨i0, hi, hz0, hz1, hz2⟩ := info_parts u8info
  have P1 := hid (pt_one g s hs w)
  have hsl := sb_len s
  have hb := headS_len g (sb s) (by omega)
  have hhead : bvs ([g] ++ le s.size 2 ++ sb s) ++ List.replicate (376 - s.size) (.int .u8 0) = bvs (headS g (sb s)) := by
    rw [bvs_zero, ← bvs_app, headS, hsl]
  have P2 := hid (sum_of (headS g (sb s)) hb)
  have hx : (addS 0#32 (headS g (sb s))).toNat < 4294967296 := (addS 0#32 (headS g (sb s))).isLt
  have P3 := hid (fun A c B W hr hB => put_sum A (headS g (sb s)) c B (addS 0#32 (headS g (sb s))) W hr hb hB)
  have hfin : layS g (sb s) = headS g (sb s) ++ le (addS 0#32 (headS g (sb s))).toNat 4 ++ [g] := rfl
  have hlen : 383 + 1 = (headS g (sb s) ++ le (addS 0#32 (headS g (sb s))).toNat 4 ++ [g]).length := by simp [hb, le_len]
  generalize headS g (sb s) = H at hb hhead P2 hx P3 hfin hlen
  generalize addS 0#32 H = x at P2 hx P3 hfin hlen
  have HH := hid hhead
  have HF := hid hfin
  have HB := hid hb
  have HL := hid hlen
  have HS := hid hs
  have HE : Hid (bvs (H ++ le x.toNat 4) ++ [.int .u8 (g.toNat : Int)] = bvs (layS g (sb s))) := hid (by rw [hfin, bvs_app _ [g]]; rfl)
  clear hhead hfin hb hsl hlen
  go_enter Try.func49, Try.ntmps49
  have HN : Hid (s.size + 3 + (376 - s.size) = 379) := hid (by have := HS.out; omega)
  go_wp2_with (first
    | (go_at_call 57; refine P1.out.mono ?_; rintro e w1 ⟨A1, c1, rfl, hown1, hb1⟩)
    | (with_reducible refine wpl_append_zeros rfl _ _ 61 3 rfl w.heap.size 5 i0 .i64 Try.underlying61 Try.underlying3 hi hz0 hz1 hz2 (.slice A1 (s.size + 3) c1) (s.size + 3) _ rfl hown1 _ (376 - s.size) rfl ?_ ?_ ?_ ?_ ?_; intro v2 w2 hown2 hb2 hg2; rw [HH.out, HN.out] at hown2; obtain ⟨A2, c2, rfl, -, -, hrd2⟩ := own_shape hown2)
    | (with_reducible refine wpl_str rfl _ 61 9 rfl 5 Try.underlying61 Try.underlying5 Try.underlying9 A2 379 c2 rfl w2.heap.size H ?_ (hid hrd2) (hid HB.out.symm))
    | (go_at_call 59; refine (P2.out _).mono ?_; rintro e w3 ⟨rfl, hb3⟩)
    | (go_at_call 58; refine (P3.out A2 c2 w2.heap.size _ (hrd2.below hb3 (Nat.le_refl _)) hb3.size).mono ?_; rintro e w4 ⟨A4, c4, rfl, hown4, hb4⟩)
    | (with_reducible refine wpl_append rfl _ _ 61 rfl w3.heap.size 5 i0 _ 1 1 Try.underlying61 hi hz0 hz1 hz2 rfl (by omega) (.slice A4 383 c4) 383 _ rfl (hown4.alloc _) (w4.heap.size + 1) (some ⟨w4.heap.size, 0, none⟩) 1 1 [.int .u8 (g.toNat : Int)] rfl ?_ ?_ ?_ ?_ ?_ ?_ ?_; intro v5 w5 hown5 hb5 hg5; rw [HE.out] at hown5; obtain ⟨A5, c5, rfl, -, -, hrd5⟩ := own_shape hown5)
    | (with_reducible refine wpl_str rfl _ 61 9 rfl 5 Try.underlying61 Try.underlying5 Try.underlying9 A5 (383 + 1) c5 rfl w5.heap.size (layS g (sb s)) ?_ (hid hrd5) (hid (by rw [HF.out]; exact HL.out))))
  rotate_left
  · refine hid fun _ => ⟨_, _, rfl, by omega, ?_⟩
    intro j u hu
    match j, hu with
    | 0, hu => simp at hu; subst hu; simp
  · exact hid rfl
  · exact hid (by intro u hu; simp at hu; subst hu; rfl)
  · exact hid (le_maxLen (by omega))
  · exact hid (by omega)
  · exact hid (by have := hb4.size; simp; omega)
  · exact hid (by have := HS.out; omega)
  · exact hid (by omega)
  · exact hid (by have := HS.out; omega)
  · exact hid hb1.size
  have hbe2 := hb1.trans hb2
  go_ret
  refine ⟨rfl, ?_⟩
  have s2 := hbe2.size
  have s3 := hb3.size
  have s4 := hb4.size
  exact ((hbe2.trans (hb3.mono s2)).trans (hb4.mono (by omega))).trans ((Below.refl _ _).alloc (by omega) _ |>.trans (hb5.mono (by omega)))
end Go.Proofs.Ythlapdijnfcekaa
/-
  The walk of the document's With.
-/
namespace Go.Proofs.Ythlapdijnfcekaa
open Go.RowKit
set_option maxRecDepth 10000

/-- how long a slice is -/
def lenV : Value → Nat
  | .slice _ n _ => n
  | _ => 0
end Go.Proofs.Ythlapdijnfcekaa
/-
  The walks of package seal's next and Seal, and of the document's Seal.
-/
namespace Go.Proofs.Ythlapdijnfcekaa
open Go.RowKit
set_option maxRecDepth 10000

/-- the guard behind the one at the end -/
def nextS (old : List UInt8) : UInt8 := if old.length = 0 then 1 else old.getD (old.length - 1) 0 + 1
/-- what Seal answers -/
def sealS (old s : List UInt8) : List UInt8 × Int := if 376 < s.length then ([], 5) else (layS (nextS old) s, 0)
/-- a text and an error's number -/
def SN (w : World) (r : List UInt8 × Int) (e : Ending) (w' : World) : Prop :=
  e = .returned (.tuple #[.string ⟨r.1.toArray⟩, .int .i64 r.2]) ∧ Below w.heap.size w w'
theorem empty_of {s : ByteArray} (h : s.size = 0) : s = ⟨#[]⟩ := by
  rcases s with ⟨d⟩
  have : d.size = 0 := h
  rw [Array.size_eq_zero_iff.1 this]
theorem full_of {s : ByteArray} (h : ¬ s.size = 0) : s.toList.isEmpty = false := by
  rw [ByteArray.toList_eq]
  cases hl : s.data.toList with
  | nil => exact absurd (show s.size = 0 by rw [← sb_len, sb, hl]; rfl) h
  | cons _ _ => rfl
theorem last_of (s : ByteArray) (h : 0 < s.size) : nextS (sb s) = s[s.size - 1]'(by omega) + 1 := by
  unfold nextS
  rw [if_neg (by rw [sb_len]; omega), sb_len, List.getD, List.getElem?_eq_getElem (by rw [sb_len]; omega)]
  rfl
theorem u8_next (c : UInt8) : ((c.toNat : Int) + 1) % 256 = (((c + 1).toNat : Nat) : Int) := by
  rw [UInt8.toNat_add]
  simp
theorem next_calls (old : ByteArray) (w : World) (hold : old.size ≤ 1125899906842624) :
    Calls Try.prog 52 #[.string old] w fun e w' => e = .returned (.int .u8 ((nextS (sb old)).toNat : Int)) ∧ w = w' := by
  by_cases h : old.size = 0
  · obtain rfl := empty_of h
    go_enter Try.func52, Try.ntmps52
    go_wp2_with fail
    go_ret
    exact ⟨rfl, rfl⟩
  · have hl := last_of old (by omega)
    have hne := full_of h
    have hlt : old.size - 1 < old.size := by omega
    have hu := u8_next (old[old.size - 1]'hlt)
    have h8 := UInt8.toNat_lt (old[old.size - 1]'hlt)
    have HL := hid hl
    have HU := hid hu
    clear hl hu
    go_enter Try.func52, Try.ntmps52
    go_wp2_with fail
    go_ret
    exact ⟨by rw [HL.out]; exact ret_int HU.out, rfl⟩
set_option maxHeartbeats 400000 in
theorem seal_calls (old s : ByteArray) (w : World) (hold : old.size ≤ 1125899906842624) :
    Calls Try.prog 42 #[.string old, .string s] w (SN w (sealS (sb old) (sb s))) := by
  unfold sealS
  rw [sb_len]
  by_cases h : 376 < s.size
  · rw [if_pos h]
    have hI : (376 : Int) < s.size := by omega
    go_enter Try.func42, Try.ntmps42
    go_wp2_with fail
    go_ret2
    exact ⟨rfl, Below.refl _ _⟩
  · rw [if_neg h]
    have hI : (s.size : Int) ≤ 376 := by omega
    have H1 := hid (next_calls old w hold)
    have H2 := hid (lay_calls (nextS (sb old)) s (by omega) w)
    clear h
    go_enter Try.func42, Try.ntmps42
    go_wp2_with (first
      | (go_at_call 52; refine H1.out.mono ?_; rintro e w1 ⟨rfl, rfl⟩)
      | (go_at_call 49; refine H2.out.mono ?_; rintro e w2 ⟨rfl, hb2⟩))
    go_ret2
    exact ⟨rfl, hb2⟩
end Go.Proofs.Ythlapdijnfcekaa
/-
  The walks of package seal's Open and of the document's.
-/
namespace Go.Proofs.Ythlapdijnfcekaa
open Go.RowKit
set_option maxRecDepth 10000

/-- what Open answers -/
def openS (l : List UInt8) : List UInt8 × Bool :=
  if l.length = 384 ∧ (ttS l 1 376).2.2 = 0 ∧ layS (l.getD 0 0) (ttS l 1 376).1 = l then ((ttS l 1 376).1, true) else ([], false)
/-- a text and whether there is one -/
def SB (w : World) (r : List UInt8 × Bool) (e : Ending) (w' : World) : Prop :=
  e = .returned (.tuple #[.string ⟨r.1.toArray⟩, .bool r.2]) ∧ Below w.heap.size w w'
theorem tt_len (l : List UInt8) (h : (ttS l 1 376).2.2 = 0) : (ttS l 1 376).1.length ≤ 376 := by
  unfold ttS at h ⊢
  split at h
  · rename_i h1; exact absurd h h1
  · split at h
    · cases h
    · rename_i h1 h2
      rw [if_neg h1, if_neg h2]
      unfold ttN
      split
      · simp
      · simp; omega
theorem bytes_rd {W : World} {g k : Nat} {s : ByteArray} (h : FRow W g 5 (bvs (sb s) ++ List.replicate k (.int .u8 0))) : Rd W (g + 1) (some ⟨g, 0, none⟩) (bvs (sb s)) := by
  have h1 := (h.rd (B := g + 1) (by omega)).take (bvs (sb s)).length
  rwa [List.take_left] at h1
theorem str_ne {a b : ByteArray} (h : a ≠ b) : (a.toList == b.toList) = false := by
  rw [beq_eq_false_iff_ne, ByteArray.toList_eq, ByteArray.toList_eq]
  intro e
  apply h
  rcases a with ⟨a⟩
  rcases b with ⟨b⟩
  simp only [Array.toList_inj] at e
  rw [e]
theorem mk_ne' {a : List UInt8} {b : ByteArray} (h : a ≠ sb b) : (⟨a.toArray⟩ : ByteArray) ≠ b := by
  intro e
  apply h
  rw [← e, sb_mk]
theorem first_of (s : ByteArray) (h : 0 < s.size) : (sb s).getD 0 0 = s[0] := by
  rw [List.getD, List.getElem?_eq_getElem (by rw [sb_len]; exact h)]
  rfl
set_option maxHeartbeats 1000000 in
theorem open_calls (s : ByteArray) (w : World) :
    Calls Try.prog 39 #[.string s] w (SB w (openS (sb s))) := by
  by_cases h384 : s.size = 384
  · have hsl := sb_len s
    have T := fun A c B W hr hc hB => tt_any A (sb s) 384 c B 1 376 W hr (by omega) (by omega) hc hB
    have hlen := tt_len (sb s)
    have hop : openS (sb s) = if (ttS (sb s) 1 376).2.2 = 0 ∧ layS ((sb s).getD 0 0) (ttS (sb s) 1 376).1 = sb s then ((ttS (sb s) 1 376).1, true) else ([], false) := by
      unfold openS
      simp [hsl, h384]
    have hfirst := first_of s (by omega)
    rw [hfirst] at hop
    generalize ttS (sb s) 1 376 = r at T hlen hop
    obtain ⟨t, n, e⟩ := r
    dsimp only at hlen hop
    have HT := hid T
    have HO := hid hop
    have h0 : (0 : Int) < s.size := by omega
    clear T hop hfirst hsl
    by_cases he : e = 0
    · subst he
      have hl := hlen rfl
      have HLay := hid (fun W => lay_calls (s[0]'(by omega)) ⟨t.toArray⟩ (by rw [← sb_len, sb_mk]; exact hl) W)
      rw [sb_mk] at HLay
      by_cases heq : layS (s[0]'(by omega)) t = sb s
      · have HR : Hid (openS (sb s) = (t, true)) := hid (by rw [HO.out, if_pos ⟨rfl, heq⟩])
        have hseq : (⟨(layS (s[0]'(by omega)) t).toArray⟩ : ByteArray) = s := by rw [heq, mk_sb]
        have HL2 : Hid (∀ W, Calls Try.prog 49 #[.int .u8 ((s[0]'(by omega)).toNat : Int), .string ⟨t.toArray⟩] W fun e W' => e = .returned (.string s) ∧ Below W.heap.size W W') := hid fun W => (HLay.out W).mono fun e W' hh => by rw [← hseq]; exact hh
        have hz := h384
        clear heq hlen HO hseq HLay
        go_enter Try.func39, Try.ntmps39
        go_wp2_with (first
          | (with_reducible refine wpl_bytes rfl _ _ _ rfl 5 Try.underlying9 Try.underlying61 Try.underlying5 s rfl ?_; intro g c k w1 HG HC HRow HB)
          | (go_at_call 48; refine (HT.out (some ⟨g, 0, none⟩) c (g + 1) w1 (bytes_rd HRow) (by have := HC.out; omega) (by have := HRow.lt; omega)).mono ?_; rintro e w2 ⟨rfl, hb2⟩)
          | (go_at_call 49; refine (HL2.out _).mono ?_; rintro e w3 ⟨rfl, hb3⟩))
        go_ret2
        rw [HR.out]
        exact ⟨rfl, (HB.trans (hb2.mono HB.size)).trans (hb3.mono (Nat.le_trans HB.size hb2.size))⟩
      · have HR : Hid (openS (sb s) = ([], false)) := hid (by rw [HO.out, if_neg (fun h => heq h.2)])
        have hne : (⟨(layS (s[0]'(by omega)) t).toArray⟩ : ByteArray) ≠ s := mk_ne' heq
        obtain ⟨L, hL, HL2⟩ : ∃ L : ByteArray, L ≠ s ∧ Hid (∀ W, Calls Try.prog 49 #[.int .u8 ((s[0]'(by omega)).toNat : Int), .string ⟨t.toArray⟩] W fun e W' => e = .returned (.string L) ∧ Below W.heap.size W W') := ⟨_, hne, hid fun W => HLay.out W⟩
        have hz := h384
        have hn2 := str_ne hL
        clear heq hlen HO HLay hne hL
        go_enter Try.func39, Try.ntmps39
        go_wp2_with (first
          | (with_reducible refine wpl_bytes rfl _ _ _ rfl 5 Try.underlying9 Try.underlying61 Try.underlying5 s rfl ?_; intro g c k w1 HG HC HRow HB)
          | (go_at_call 48; refine (HT.out (some ⟨g, 0, none⟩) c (g + 1) w1 (bytes_rd HRow) (by have := HC.out; omega) (by have := HRow.lt; omega)).mono ?_; rintro e w2 ⟨rfl, hb2⟩)
          | (go_at_call 49; refine (HL2.out _).mono ?_; rintro e w3 ⟨rfl, hb3⟩))
        go_ret2
        rw [HR.out]
        exact ⟨rfl, (HB.trans (hb2.mono HB.size)).trans (hb3.mono (Nat.le_trans HB.size hb2.size))⟩
    · have HR : Hid (openS (sb s) = ([], false)) := hid (by rw [HO.out, if_neg (fun h => he h.1)])
      have hne : (e != 0) = true := by simpa using he
      have hz := h384
      clear hlen HO he
      go_enter Try.func39, Try.ntmps39
      go_wp2_with (first
        | (with_reducible refine wpl_bytes rfl _ _ _ rfl 5 Try.underlying9 Try.underlying61 Try.underlying5 s rfl ?_; intro g c k w1 HG HC HRow HB)
        | (go_at_call 48; refine (HT.out (some ⟨g, 0, none⟩) c (g + 1) w1 (bytes_rd HRow) (by have := HC.out; omega) (by have := HRow.lt; omega)).mono ?_; rintro e w2 ⟨rfl, hb2⟩))
      go_ret2
      rw [HR.out]
      exact ⟨rfl, HB.trans (hb2.mono HB.size)⟩
  · have hne : ((s.size : Int) != 384) = true := by simp; omega
    have HR : Hid (openS (sb s) = ([], false)) := hid (by unfold openS; rw [if_neg (by rw [sb_len]; exact fun h => h384 h.1)])
    clear h384
    go_enter Try.func39, Try.ntmps39
    go_wp2_with fail
    go_ret2
    rw [HR.out]
    exact ⟨rfl, Below.refl _ _⟩
end Go.Proofs.Ythlapdijnfcekaa
/-
  Plain words on sealed sectors: what was sealed is opened, what was torn or turned is not.
-/
namespace Go.Proofs.Ythlapdijnfcekaa

theorem leV_le : ∀ (k n : Nat), n / 2 ^ (8 * k) = 0 → leV (le n k) = n
  | 0, n, h => by simp at h; subst h; rfl
  | k + 1, n, h => by
    have h2 : n / 256 / 2 ^ (8 * k) = 0 := by
      rw [Nat.div_div_eq_div_mul, show 256 * 2 ^ (8 * k) = 2 ^ (8 * (k + 1)) from by rw [show 8 * (k + 1) = 8 + 8 * k by omega, Nat.pow_add]]
      exact h
    have := leV_le k (n / 256) h2
    simp only [le, leV, this]
    simp
    omega
theorem le_inj (k n m : Nat) (hn : n / 2 ^ (8 * k) = 0) (hm : m / 2 ^ (8 * k) = 0) (h : le n k = le m k) : n = m := by
  rw [← leV_le k n hn, ← leV_le k m hm, h]
theorem byStep_byte (r : BitVec 32) (c d : UInt8) (h : byStep r c = byStep r d) : c = d := by
  have h1 := rsn_inj 8 _ _ h
  have h2 : r ^^^ (r ^^^ c.toBitVec.setWidth 32) = r ^^^ (r ^^^ d.toBitVec.setWidth 32) := by rw [h1]
  rw [← BitVec.xor_assoc, ← BitVec.xor_assoc, BitVec.xor_self, BitVec.zero_xor, BitVec.zero_xor] at h2
  have h3 := congrArg (fun z : BitVec 32 => z.setWidth 8) h2
  simp at h3
  exact UInt8.toBitVec_inj.1 h3
theorem byAll_one (r : BitVec 32) (a z : List UInt8) (c d : UInt8) (h : byAll r (a ++ c :: z) = byAll r (a ++ d :: z)) : c = d := by
  rw [byAll_app, byAll_app] at h
  exact byStep_byte _ c d (byAll_inj z _ _ h)
theorem addS_set (l : List UInt8) (i : Nat) (hi : i < l.length) (c : UInt8) (h : addS 0#32 (l.set i c) = addS 0#32 l) : c = l[i] := by
  unfold addS at h
  have h1 := BitVec.not_inj.1 h
  have h2 : l = l.take i ++ l[i] :: l.drop (i + 1) := by rw [← List.drop_eq_getElem_cons hi, List.take_append_drop]
  have h3 : l.set i c = l.take i ++ c :: l.drop (i + 1) := by rw [List.set_eq_take_append_cons_drop, if_pos hi]
  rw [h3] at h1
  conv at h1 => rhs; rw [h2]
  exact byAll_one _ _ _ _ _ h1
theorem sumS_inj (a b : List UInt8) (h : sumS a = sumS b) : addS 0#32 a = addS 0#32 b :=
  BitVec.eq_of_toNat_eq (le_inj 4 _ _ (Nat.div_eq_of_lt (BitVec.isLt _)) (Nat.div_eq_of_lt (BitVec.isLt _)) h)
/-- what each sealed sector has -/
def Good (l : List UInt8) : Prop := l.length = 384 ∧ (l.drop 379).take 4 = sumS (l.take 379) ∧ l[383]? = l[0]?
theorem lay_take (g : UInt8) (s : List UInt8) (h : s.length ≤ 376) : (layS g s).take 379 = headS g s := by
  have := headS_len g s h
  unfold layS
  rw [List.append_assoc, List.take_append_of_le_length (by omega), List.take_of_length_le (by omega)]
theorem lay_drop (g : UInt8) (s : List UInt8) (h : s.length ≤ 376) : (layS g s).drop 379 = sumS (headS g s) ++ [g] := by
  have := headS_len g s h
  unfold layS
  rw [List.append_assoc, ← this, List.drop_left]
theorem lay_first (g : UInt8) (s : List UInt8) : (layS g s)[0]? = some g := by simp [layS, headS]
theorem lay_last (g : UInt8) (s : List UInt8) (h : s.length ≤ 376) : (layS g s)[383]? = some g := by
  have h1 := headS_len g s h
  have h2 := sumS_len (headS g s)
  unfold layS
  rw [List.getElem?_append_right (by simp [h1, h2])]
  simp [h1, h2]
theorem lay_good (g : UInt8) (s : List UInt8) (h : s.length ≤ 376) : Good (layS g s) := by
  refine ⟨layS_len g s h, ?_, by rw [lay_first, lay_last g s h]⟩
  rw [lay_drop g s h, lay_take g s h, List.take_append_of_le_length (by rw [sumS_len]; omega), List.take_of_length_le (by rw [sumS_len]; omega)]
theorem open_not (l : List UInt8) (h : ¬ Good l) : openS l = ([], false) := by
  unfold openS
  rw [if_neg]
  rintro ⟨h1, h2, h3⟩
  apply h
  rw [← h3]
  exact lay_good _ _ (tt_len l h2)
theorem open_lay (g : UInt8) (s : List UInt8) (h : s.length ≤ 376) : openS (layS g s) = (s, true) := by
  have hl := layS_len g s h
  have h0 : (layS g s).getD 0 0 = g := by rw [List.getD, lay_first]; rfl
  have hsp : layS g s = [g] ++ (le s.length 2 ++ (s ++ (List.replicate (376 - s.length) 0 ++ (sumS (headS g s) ++ [g])))) := by simp [layS, headS]
  have ht : takeS (layS g s) 1 2 = (s.length, 0) := by
    unfold takeS
    rw [if_neg (by omega), if_neg (by rw [hl]; omega)]
    congr 1
    show leV (((layS g s).drop 1).take 2) = s.length
    rw [hsp]
    show leV ((le s.length 2 ++ (s ++ (List.replicate (376 - s.length) 0 ++ (sumS (headS g s) ++ [g])))).take 2) = s.length
    rw [List.take_append_of_le_length (by rw [le_len]; omega), List.take_of_length_le (by rw [le_len]; omega)]
    exact leV_le 2 _ (Nat.div_eq_of_lt (by omega))
  have hd : ((layS g s).drop 3).take s.length = s := by
    rw [hsp]
    have h2 : (le s.length 2).length = 2 := le_len _ _
    show ((le s.length 2 ++ (s ++ (List.replicate (376 - s.length) 0 ++ (sumS (headS g s) ++ [g])))).drop 2).take s.length = s
    generalize le s.length 2 = p at h2
    rw [← h2, List.drop_left, List.take_left]
  have htt : ttS (layS g s) 1 376 = (s, 1 + 2 + (s.length : Int), 0) := by
    unfold ttS
    rw [ht]
    rw [if_neg (by simp), if_neg (by simp; omega)]
    unfold ttN
    show (if (layS g s).length < 1 + 2 + s.length then _ else _) = _
    rw [if_neg (by omega)]
    show (((layS g s).drop 3).take s.length, _) = _
    rw [hd]
    rfl
  unfold openS
  rw [htt, h0, if_pos ⟨hl, rfl, rfl⟩]
theorem tears_not (g : UInt8) (s old : List UInt8) (cut : Nat) (h : s.length ≤ 376) (hg : old.getD 383 0 ≠ g) (h0 : 0 < cut) (h1 : cut < 384) :
    openS ((layS g s).take cut ++ old.drop cut) = ([], false) := by
  apply open_not
  rintro ⟨_, _, h3⟩
  have hl := layS_len g s h
  rw [List.getElem?_append_right (by simp; omega), List.getElem?_append_left (by simp; omega), List.getElem?_take, if_pos h0, lay_first, List.getElem?_drop] at h3
  have e : cut + (383 - ((layS g s).take cut).length) = 383 := by simp; omega
  rw [e] at h3
  exact hg (by rw [List.getD, h3]; rfl)
theorem turns_not (a : List UInt8) (i : Nat) (c : UInt8) (ha : Good a) (hi : i < 384) (hc : a[i]? ≠ some c) : openS (a.set i c) = ([], false) := by
  apply open_not
  rintro ⟨g1, g2, g3⟩
  obtain ⟨a1, a2, a3⟩ := ha
  by_cases h0 : i = 0
  · subst h0
    rw [List.getElem?_set_ne (by omega), List.getElem?_set_self (by omega), a3] at g3
    exact hc g3
  · by_cases h1 : i = 383
    · subst h1
      rw [List.getElem?_set_self (by omega), List.getElem?_set_ne (by omega), ← a3] at g3
      exact hc g3.symm
    · by_cases h2 : i < 379
      · rw [List.drop_set_of_lt h2, a2, List.take_set] at g2
        have := addS_set (a.take 379) i (by simp; omega) c (sumS_inj _ _ g2.symm)
        apply hc
        rw [this, List.getElem_take, List.getElem?_eq_getElem (by omega)]
      · have e : (a.set i c).take 379 = a.take 379 := by
          rw [List.take_set, List.set_eq_of_length_le (by simp; omega)]
        rw [e, ← a2] at g2
        have g4 := congrArg (fun x : List UInt8 => x[i - 379]?) g2
        simp only [List.getElem?_take, List.getElem?_drop] at g4
        rw [if_pos (by omega), if_pos (by omega), show 379 + (i - 379) = i by omega, List.getElem?_set_self (by omega)] at g4
        exact hc g4.symm
end Go.Proofs.Ythlapdijnfcekaa
/-
  The walks of Chain, and of the document's Chain.
-/
namespace Go.Proofs.Ythlapdijnfcekaa
open Go.RowKit
set_option maxRecDepth 10000

theorem cs_calls (h : BitVec 64) (c : UInt8) (w : World) :
    Calls Try.prog 51 #[.int .u64 (h.toNat : Int), .int .u8 (c.toNat : Int)] w fun e w' => e = .returned (.int .u64 ((linkStep h c).toNat : Int)) ∧ w = w' := by
  have h1 : h.toNat < 18446744073709551616 := h.isLt
  have h2 : c.toNat < 256 := UInt8.toNat_lt c
  have HC := hid (link_code h c)
  go_enter Try.func51, Try.ntmps51
  go_wp2
  go_ret
  exact ⟨ret_int HC.out, rfl⟩
theorem orig_code (h : BitVec 64) : bits .xor .u64 (h.toNat : Int) 14695981039346656037 = ((h ^^^ orig).toNat : Int) := by
  have e : (14695981039346656037 : Int) = (orig.toNat : Int) := rfl
  rw [e, xor64]
theorem long8_len (n : Nat) : (long8 n).length = 8 := by simp [long8]
theorem long8_get (n j : Nat) (h : j < 8) : (long8 n)[j]? = some (UInt8.ofNat (n / 2 ^ (8 * j))) := by
  simp [long8, List.getElem?_range h]
theorem links_snoc (h : BitVec 64) (l : List UInt8) (k : Nat) (hk : k < l.length) : (l.take (k + 1)).foldl linkStep h = linkStep ((l.take k).foldl linkStep h) l[k] := by
  rw [List.take_succ_eq_append_getElem hk, List.foldl_append]
  rfl
theorem byte_code (n j : Nat) : ((n : Int) / 2 ^ (8 * j) % 256) = (((UInt8.ofNat (n / 2 ^ (8 * j))).toNat : Nat) : Int) := by
  simp
set_option maxHeartbeats 800000 in
theorem chain_calls (h : BitVec 64) (s : ByteArray) (w : World) (hs : s.size ≤ 1125899906842624) :
    Calls Try.prog 41 #[.int .u64 (h.toNat : Int), .string s] w fun e w' => e = .returned (.int .u64 ((chainOf h (sb s)).toNat : Int)) ∧ Below w.heap.size w w' := by
  have hx1 : h.toNat < 18446744073709551616 := h.isLt
  have HS := hid (sb_len s)
  have ho := orig_code h
  go_enter Try.func41, Try.ntmps41
  go_wp2_with (with_reducible refine wpl_bytes rfl _ _ _ rfl 5 Try.underlying9 Try.underlying61 Try.underlying5 s rfl ?_; intro g c k w2 HG HC HR HB)
  clear ho
  go_loop [0, 14] (fun r i => ∃ k : Nat, k ≤ s.size ∧ i = .int .i64 k ∧ r = .int .u64 ((((sb s).take k).foldl linkStep (h ^^^ orig)).toNat : Int)) (fun _ i => s.size - (intOf i).toNat)
  case atStart => exact ⟨0, by omega, rfl, rfl⟩
  case round =>
    obtain ⟨k, hk, rfl, rfl⟩ := hrel
    by_cases hlt : k < s.size
    · have hkl : k < (sb s).length := by rw [HS.out]; exact hlt
      have hc := HR.cell k
      rw [List.getElem?_append_left (by rw [bvs_len]; exact hkl)] at hc
      simp only [bvs, List.getElem?_map, List.getElem?_eq_getElem hkl, Option.map_some, bv] at hc
      have hstep := links_snoc (h ^^^ orig) (sb s) k hkl
      generalize hb : (sb s)[k] = b at hc hstep
      generalize hx : ((sb s).take k).foldl linkStep (h ^^^ orig) = r at hstep ⊢
      have h1 : r.toNat < 18446744073709551616 := r.isLt
      have h2 : b.toNat < 256 := UInt8.toNat_lt b
      have HST := hid hstep
      clear hb hx hstep
      go_wp2_with (go_at_call 51; refine (cs_calls _ _ _).mono ?_; rintro e w' ⟨rfl, rfl⟩)
      go_round
      case rel => exact ⟨k + 1, by omega, by go_num, by rw [HST.out]⟩
      case measure => simp [intOf]; omega
    · obtain rfl : k = s.size := by omega
      have hxt : (((sb s).take s.size).foldl linkStep (h ^^^ orig)) = (sb s).foldl linkStep (h ^^^ orig) := by rw [List.take_of_length_le (by rw [HS.out]; exact Nat.le_refl _)]
      rw [hxt]
      clear hxt
      generalize hq : (sb s).foldl linkStep (h ^^^ orig) = q
      have hq1 : q.toNat < 18446744073709551616 := q.isLt
      have HQ : Hid (chainOf h (sb s) = (long8 s.size).foldl linkStep q) := hid (by rw [chainOf, List.foldl_append, hq, HS.out])
      clear hq
      go_wp2_with fail
      go_loop [0, 25] (fun r i => ∃ k : Nat, k ≤ 8 ∧ i = .int .i64 k ∧ r = .int .u64 ((((long8 s.size).take k).foldl linkStep q).toNat : Int)) (fun _ i => 8 - (intOf i).toNat)
      case atStart => exact ⟨0, by omega, rfl, rfl⟩
      case round =>
        obtain ⟨j, hj, rfl, rfl⟩ := hrel
        by_cases hjl : j < 8
        · have hl8 : j < (long8 s.size).length := by rw [long8_len]; exact hjl
          have hstep := links_snoc q (long8 s.size) j hl8
          have hgt := long8_get s.size j hjl
          rw [List.getElem?_eq_getElem hl8] at hgt
          rw [Option.some.inj hgt] at hstep
          have hbc := byte_code s.size j
          generalize hx : ((long8 s.size).take j).foldl linkStep q = r at hstep ⊢
          generalize UInt8.ofNat (s.size / 2 ^ (8 * j)) = b at hbc hstep
          have h1 : r.toNat < 18446744073709551616 := r.isLt
          have HST := hid hstep
          have HBC := hid hbc
          clear hx hstep hgt hbc
          go_wp2_with (go_at_call 51; rw [HBC.out]; refine (cs_calls _ _ _).mono ?_; rintro e w' ⟨rfl, rfl⟩)
          go_round
          case rel => exact ⟨j + 1, by omega, by go_num, by rw [HST.out]⟩
          case measure => simp [intOf]; omega
        · obtain rfl : j = 8 := by omega
          have hxt : (((long8 s.size).take 8).foldl linkStep q) = (long8 s.size).foldl linkStep q := by rw [List.take_of_length_le (by rw [long8_len]; exact Nat.le_refl _)]
          rw [hxt, ← HQ.out]
          clear hxt
          generalize hz : chainOf h (sb s) = z
          have HZ := hid hz
          clear hz
          go_wp2_with fail
          go_ret
          exact ⟨by rw [HZ.out]; rfl, HB⟩
theorem wrap_tdiv (x : Int) : IntKind.u64.wrap ((IntKind.u64.wrap x).tdiv 536870912) = IntKind.u64.wrap x / 536870912 := by
  have h : 0 ≤ IntKind.u64.wrap x ∧ IntKind.u64.wrap x < 18446744073709551616 := by
    simp [IntKind.wrap, IntKind.bits, IntKind.signed]
    omega
  rw [Int.tdiv_eq_ediv_of_nonneg h.1]
  exact IntWalk.u64_in _ ⟨by omega, by omega⟩
theorem mod_code (n : Nat) : ((n : Int) % 256) = (((UInt8.ofNat n).toNat : Nat) : Int) := by simp
set_option maxHeartbeats 800000 in
theorem rchain_calls (h : BitVec 64) (s : ByteArray) (w : World) (hs : s.size ≤ 1125899906842624) :
    Calls Try.prog 50 #[.int .u64 (h.toNat : Int), .string s] w fun e w' => e = .returned (.int .u64 ((chainOf h (sb s)).toNat : Int)) ∧ w = w' := by
  have hx1 : h.toNat < 18446744073709551616 := h.isLt
  have HS := hid (sb_len s)
  have ho := orig_code h
  go_enter Try.func50, Try.ntmps50
  go_wp2_with fail
  clear ho
  go_loop [0, 5, 6] (fun r m i => ∃ k : Nat, k ≤ s.size + 8 ∧ i = .int .i64 k ∧ m = .int .u64 ((s.size / 2 ^ (8 * (k - s.size)) : Nat) : Int) ∧ r = .int .u64 ((((sb s ++ long8 s.size).take k).foldl linkStep (h ^^^ orig)).toNat : Int)) (fun _ _ i => s.size + 8 - (intOf i).toNat)
  case atStart => exact ⟨0, by omega, rfl, by simp, rfl⟩
  case round =>
    obtain ⟨k, hk, rfl, rfl, rfl⟩ := hrel
    have hdl : s.size / 2 ^ (8 * (k - s.size)) ≤ s.size := Nat.div_le_self _ _
    by_cases hlt : k < s.size
    · have hkl : k < (sb s).length := by rw [HS.out]; exact hlt
      have hkl2 : k < (sb s ++ long8 s.size).length := by rw [List.length_append]; omega
      have hstep := links_snoc (h ^^^ orig) (sb s ++ long8 s.size) k hkl2
      rw [List.getElem_append_left hkl, show (sb s)[k] = s[k]'hlt from rfl] at hstep
      have hm : s.size / 2 ^ (8 * (k + 1 - s.size)) = s.size / 2 ^ (8 * (k - s.size)) := by rw [show k + 1 - s.size = k - s.size by omega]
      generalize s.size / 2 ^ (8 * (k - s.size)) = m at hdl hm ⊢
      generalize hx : ((sb s ++ long8 s.size).take k).foldl linkStep (h ^^^ orig) = r at hstep ⊢
      have h1 : r.toNat < 18446744073709551616 := r.isLt
      have h2 : (s[k]'hlt).toNat < 256 := UInt8.toNat_lt _
      have HST := hid hstep
      have HM := hid hm
      have HLC := hid (link_code r (s[k]'hlt))
      have hlt2 : (k : Int) < s.size + 8 := by omega
      clear hx hstep hm
      go_wp2_with fail
      go_round
      case rel => exact ⟨k + 1, by omega, by go_num, by rw [HM.out], by rw [HST.out, wrap_tdiv, HLC.out]⟩
      case measure => simp [intOf]; omega
    · by_cases hlt8 : k < s.size + 8
      · have hl8 : k - (sb s).length < (long8 s.size).length := by rw [long8_len, HS.out]; omega
        have hkl2 : k < (sb s ++ long8 s.size).length := by rw [List.length_append, long8_len, HS.out]; omega
        have hstep := links_snoc (h ^^^ orig) (sb s ++ long8 s.size) k hkl2
        have hgt := long8_get s.size (k - (sb s).length) (by rw [HS.out]; omega)
        rw [List.getElem?_eq_getElem hl8] at hgt
        rw [List.getElem_append_right (by rw [HS.out]; omega), Option.some.inj hgt, HS.out] at hstep
        have hm : s.size / 2 ^ (8 * (k + 1 - s.size)) = s.size / 2 ^ (8 * (k - s.size)) / 256 := by
          rw [show k + 1 - s.size = (k - s.size) + 1 by omega, Nat.mul_add, Nat.pow_add, ← Nat.div_div_eq_div_mul]
        generalize s.size / 2 ^ (8 * (k - s.size)) = m at hdl hm hstep ⊢
        generalize hx : ((sb s ++ long8 s.size).take k).foldl linkStep (h ^^^ orig) = r at hstep ⊢
        have h1 : r.toNat < 18446744073709551616 := r.isLt
        have HST := hid hstep
        have HM := hid hm
        have hlc := link_code r (UInt8.ofNat m)
        rw [← mod_code] at hlc
        have HLC := hid hlc
        have hlt2 : (k : Int) < s.size + 8 := by omega
        clear hx hstep hm hgt hlc hl8 hkl2
        go_wp2_with fail
        go_round
        case rel => exact ⟨k + 1, by omega, by go_num, by rw [HM.out]; simp, by rw [HST.out, wrap_tdiv, HLC.out]⟩
        case measure => simp [intOf]; omega
      · obtain rfl : k = s.size + 8 := by omega
        have hxt : ((sb s ++ long8 s.size).take (s.size + 8)).foldl linkStep (h ^^^ orig) = chainOf h (sb s) := by
          rw [List.take_of_length_le (by rw [List.length_append, long8_len, HS.out]; exact Nat.le_refl _), chainOf, HS.out]
        rw [hxt]
        generalize s.size / 2 ^ (8 * (s.size + 8 - s.size)) = m at hdl ⊢
        clear hxt
        generalize hz : chainOf h (sb s) = z
        have HZ := hid hz
        clear hz
        go_wp2_with fail
        go_ret
        exact ⟨by rw [HZ.out]; rfl, rfl⟩
end Go.Proofs.Ythlapdijnfcekaa
/-
  What a disk is and does, as plain functions: sectors, writes under way; rows of equal width laid end to end.
-/
namespace Go.Proofs.Ythlapdijnfcekaa
open Go.RowKit

structure Sec where
  lasts : List UInt8
  marked : Bool
structure Wr where
  place : Nat
  bytes : List UInt8
structure Sp where
  secs : List Sec
  way : List Wr
  on : Bool
  left : Nat
  count : Nat
/-- all that is there has its size -/
structure Sp.WF (S : Sp) : Prop where
  len : ∀ s ∈ S.secs, s.lasts.length = 384
  way : ∀ x ∈ S.way, x.place < S.secs.length ∧ x.bytes.length = 384
  few : S.secs.length ≤ 64
  left : S.left ≤ 9223372036854775807
  less : S.way.length ≤ S.count
/-- the place, from 1 on, of the last write of sector i; 0: there is none -/
def newest (way : List Wr) (i : Nat) : Nat := (way.foldl (fun a x => (a.1 + 1, if x.place = i then a.1 + 1 else a.2)) (0, 0)).2
/-- the bytes of the last write of sector i, or d -/
def lastw (way : List Wr) (i : Nat) (d : List UInt8) : List UInt8 := way.foldl (fun a x => if x.place = i then x.bytes else a) d
theorem newest_fst (way : List Wr) (i : Nat) : ∀ a, (way.foldl (fun a x => (a.1 + 1, if x.place = i then a.1 + 1 else a.2)) a).1 = a.1 + way.length := by
  induction way with
  | nil => intro a; simp
  | cons x r ih => intro a; rw [List.foldl_cons, ih]; simp only [List.length_cons]; omega
theorem newest_nil (i : Nat) : newest [] i = 0 := rfl
theorem newest_snoc (way : List Wr) (x : Wr) (i : Nat) : newest (way ++ [x]) i = if x.place = i then way.length + 1 else newest way i := by
  unfold newest
  rw [List.foldl_append, List.foldl_cons, List.foldl_nil]
  have := newest_fst way i (0, 0)
  simp only [Nat.zero_add] at this
  simp only [this]
theorem lastw_snoc (way : List Wr) (x : Wr) (i : Nat) (d : List UInt8) : lastw (way ++ [x]) i d = if x.place = i then x.bytes else lastw way i d := by
  unfold lastw
  rw [List.foldl_append, List.foldl_cons, List.foldl_nil]
theorem snoc_ind {α : Type} {p : List α → Prop} (h0 : p []) (h1 : ∀ l x, p l → p (l ++ [x])) : ∀ l, p l := by
  intro l
  have h : ∀ r : List α, p r.reverse := by
    intro r
    induction r with
    | nil => exact h0
    | cons x r ih => rw [List.reverse_cons]; exact h1 _ _ ih
  simpa using h l.reverse
theorem newest_le (way : List Wr) (i : Nat) : newest way i ≤ way.length := by
  refine snoc_ind (p := fun way => newest way i ≤ way.length) (by simp [newest_nil]) ?_ way
  intro l x ih
  rw [newest_snoc]
  split <;> simp <;> omega
/-- what the newest write of a sector is -/
theorem newest_get (way : List Wr) (i : Nat) (d : List UInt8) : (newest way i = 0 ∧ lastw way i d = d ∧ ∀ x ∈ way, x.place ≠ i) ∨ (∃ k, newest way i = k + 1 ∧ ∃ h : k < way.length, way[k].place = i ∧ way[k].bytes = lastw way i d) := by
  refine snoc_ind (p := fun way => (newest way i = 0 ∧ lastw way i d = d ∧ ∀ x ∈ way, x.place ≠ i) ∨ (∃ k, newest way i = k + 1 ∧ ∃ h : k < way.length, way[k].place = i ∧ way[k].bytes = lastw way i d)) (.inl ⟨rfl, rfl, by simp⟩) ?_ way
  intro l x ih
  rw [newest_snoc, lastw_snoc]
  by_cases hx : x.place = i
  · rw [if_pos hx, if_pos hx]
    exact .inr ⟨l.length, rfl, by simp, by simpa using hx, by simp⟩
  · rw [if_neg hx, if_neg hx]
    rcases ih with ⟨h1, h2, h3⟩ | ⟨k, h1, h2, h3, h4⟩
    · refine .inl ⟨h1, h2, ?_⟩
      intro y hy
      rcases List.mem_append.1 hy with hy | hy
      · exact h3 y hy
      · simp at hy; subst hy; exact hx
    · refine .inr ⟨k, h1, by simp; omega, ?_, ?_⟩
      · rw [List.getElem_append_left h2]; exact h3
      · rw [List.getElem_append_left h2]; exact h4
theorem newest_zero (way : List Wr) (i : Nat) : newest way i = 0 ↔ ∀ x ∈ way, x.place ≠ i := by
  rcases newest_get way i [] with ⟨h1, _, h3⟩ | ⟨k, h1, h2, h3, _⟩
  · exact ⟨fun _ => h3, fun _ => h1⟩
  · rw [h1]
    exact ⟨fun h => by omega, fun h => absurd h3 (h _ (List.getElem_mem h2))⟩
/-- how many bytes of a write last, by a pick -/
def keptS (pick : Int) : Nat := if pick < 0 ∨ pick % 3 = 0 then 0 else if pick % 3 = 1 then 384 else (pick / 3 % 385).toNat
theorem keptS_le (p : Int) : keptS p ≤ 384 := by unfold keptS; split <;> (try split) <;> omega
def pickOf (picks : List Int) (k : Nat) : Nat := if picks = [] then 0 else keptS (picks.getD (k % picks.length) 0)
theorem pickOf_le (picks : List Int) (k : Nat) : pickOf picks k ≤ 384 := by
  unfold pickOf
  split
  · omega
  · exact keptS_le _
/-- of a write the first c bytes last -/
def takeS3 (s : Sec) (b : List UInt8) (c : Nat) : Sec := ⟨b.take c ++ s.lasts.drop c, if c = 0 then s.marked else decide (c < 384)⟩
/-- the writes, in order; of the k-th F k bytes last -/
def sett (F : Nat → Nat) (way : List Wr) (secs : List Sec) : List Sec :=
  (way.foldl (fun (a : Nat × List Sec) x => (a.1 + 1, a.2.modify x.place (fun s => takeS3 s x.bytes (F a.1)))) (0, secs)).2
theorem sett_fst (F : Nat → Nat) (way : List Wr) : ∀ a : Nat × List Sec, (way.foldl (fun (a : Nat × List Sec) x => (a.1 + 1, a.2.modify x.place (fun s => takeS3 s x.bytes (F a.1)))) a).1 = a.1 + way.length := by
  induction way with
  | nil => intro a; simp
  | cons x r ih => intro a; rw [List.foldl_cons, ih]; simp only [List.length_cons]; omega
theorem sett_nil (F : Nat → Nat) (secs : List Sec) : sett F [] secs = secs := rfl
theorem sett_snoc (F : Nat → Nat) (way : List Wr) (x : Wr) (secs : List Sec) : sett F (way ++ [x]) secs = (sett F way secs).modify x.place (fun s => takeS3 s x.bytes (F way.length)) := by
  unfold sett
  rw [List.foldl_append, List.foldl_cons, List.foldl_nil]
  have := sett_fst F way (0, secs)
  simp only [Nat.zero_add] at this
  simp only [this]
theorem sett_length (F : Nat → Nat) (way : List Wr) (secs : List Sec) : (sett F way secs).length = secs.length := by
  refine snoc_ind (p := fun way => (sett F way secs).length = secs.length) rfl ?_ way
  intro l x ih
  rw [sett_snoc, List.length_modify, ih]
theorem sett_wf (F : Nat → Nat) (hF : ∀ k, F k ≤ 384) (way : List Wr) (secs : List Sec) (h : ∀ s ∈ secs, s.lasts.length = 384) (hw : ∀ x ∈ way, x.bytes.length = 384) : ∀ s ∈ sett F way secs, s.lasts.length = 384 := by
  revert hw
  refine snoc_ind (p := fun way => (∀ x ∈ way, x.bytes.length = 384) → ∀ s ∈ sett F way secs, s.lasts.length = 384) (fun _ => h) ?_ way
  intro l x ih hw s hs
  rw [sett_snoc] at hs
  have ih' := ih (fun x hx => hw x (by simp [hx]))
  obtain ⟨j, hj, hje⟩ := List.getElem_of_mem hs
  rw [List.getElem_modify] at hje
  split at hje
  · subst hje
    have h1 := hw x (by simp)
    have h2 := hF l.length
    have h3 := ih' _ (List.getElem_mem (by simpa using hj))
    simp only [takeS3, List.length_append, List.length_take, List.length_drop, h1, h3]
    omega
  · subst hje
    exact ih' _ (List.getElem_mem (by simpa using hj))
def Sp.is (S : Sp) (i : Int) : Prop := 0 ≤ i ∧ i < (S.secs.length : Int)
instance (S : Sp) (i : Int) : Decidable (S.is i) := by unfold Sp.is; infer_instance
/-- a call that counts -/
def Sp.goes (S : Sp) : Sp × Int :=
  if S.on = false then (S, 6)
  else if S.left = 1 then ({ S with on := false, left := 0, count := S.count + 1 }, 6)
  else ({ S with left := S.left - 1, count := S.count + 1 }, 0)
def Sp.write (S : Sp) (i : Int) (s : List UInt8) : Sp × Int :=
  if ¬ S.is i ∨ s.length ≠ 384 then (S, 1)
  else if S.goes.2 = 0 then ({ S.goes.1 with way := S.way ++ [⟨i.toNat, s⟩] }, 0) else S.goes
def Sp.flush (S : Sp) : Sp × Int :=
  if S.goes.2 = 0 then ({ S.goes.1 with secs := sett (fun _ => 384) S.way S.secs, way := [] }, 0) else S.goes
def Sp.fuse (S : Sp) (n : Int) : Sp × Int := if S.on = false then (S, 6) else ({ S with left := n.toNat }, 0)
def Sp.cut (S : Sp) : Sp × Int := if S.on = false then (S, 6) else ({ S with on := false, left := 0 }, 0)
def Sp.start (S : Sp) (picks : List Int) : Sp × Int :=
  if S.on = true then (S, 10) else ({ S with secs := sett (pickOf picks) S.way S.secs, way := [], on := true }, 0)
def turnS (s : Sec) (at_ : Nat) (m : Nat) : Sec := ⟨s.lasts.set at_ (s.lasts.getD at_ 0 ^^^ UInt8.ofNat m), true⟩
def Sp.rot (S : Sp) (i at_ m : Int) : Sp × Int :=
  if ¬ S.is i ∨ at_ < 0 ∨ 384 ≤ at_ ∨ m < 1 ∨ 255 < m then (S, 1)
  else if newest S.way i.toNat ≠ 0 then (S, 10)
  else if (S.secs.getD i.toNat ⟨[], false⟩).marked = true then (S, 7)
  else ({ S with secs := S.secs.modify i.toNat (fun s => turnS s at_.toNat m.toNat) }, 0)
def Sp.read (S : Sp) (i : Int) : List UInt8 × Int :=
  if ¬ S.is i then ([], 1) else if S.on = false then ([], 6)
  else (lastw S.way i.toNat (S.secs.getD i.toNat ⟨[], false⟩).lasts, 0)
def b384 (c : UInt8) : List UInt8 := List.replicate 384 c
theorem b384_len (c : UInt8) : (b384 c).length = 384 := List.length_replicate
def sec0 : Sec := ⟨b384 0, false⟩
theorem sec0_len : sec0.lasts.length = 384 := b384_len 0
def Sp.mk0 (n : Nat) : Sp := ⟨List.replicate n sec0, [], true, 0, 0⟩
/-! ### Rows of equal width, end to end -/
theorem flat_length (n : Nat) : ∀ (R : List (List Value)), (∀ r ∈ R, r.length = n) → R.flatten.length = R.length * n
  | [], _ => by simp
  | r :: R, h => by
    rw [List.flatten_cons, List.length_append, flat_length n R (fun r hr => h r (by simp [hr])), h r (by simp), List.length_cons, Nat.add_mul]
    omega
theorem flat_get (n : Nat) : ∀ (R : List (List Value)) (i j : Nat), (∀ r ∈ R, r.length = n) → j < n → R.flatten[i * n + j]? = R[i]?.bind (·[j]?)
  | [], i, j, _, _ => by simp
  | r :: R, 0, j, h, hj => by
    have := h r (by simp)
    rw [List.flatten_cons, Nat.zero_mul, Nat.zero_add, List.getElem?_append_left (by omega)]
    simp
  | r :: R, i + 1, j, h, hj => by
    have h1 := h r (by simp)
    rw [List.flatten_cons, List.getElem?_append_right (by rw [h1, Nat.add_mul]; omega), List.getElem?_cons_succ, ← flat_get n R i j (fun r hr => h r (by simp [hr])) hj, h1]
    congr 1
    rw [Nat.add_mul]
    omega
theorem flat_splice (n : Nat) : ∀ (R : List (List Value)) (i o : Nat) (cs : List Value) (hi : i < R.length), (∀ r ∈ R, r.length = n) → o + cs.length ≤ n →
    splice R.flatten (i * n + o) cs = (R.set i (splice R[i] o cs)).flatten
  | [], i, o, cs, hi, _, _ => absurd hi (by simp)
  | r :: R, 0, o, cs, _, h, hj => by
    have := h r (by simp)
    simp only [List.set_cons_zero, List.flatten_cons, List.getElem_cons_zero, Nat.zero_mul, Nat.zero_add, splice]
    rw [List.take_append_of_le_length (by omega), List.drop_append_of_le_length (by omega)]
    simp
  | r :: R, i + 1, o, cs, hi, h, hj => by
    have h1 := h r (by simp)
    have ih := flat_splice n R i o cs (by simpa using hi) (fun r hr => h r (by simp [hr])) hj
    simp only [List.set_cons_succ, List.flatten_cons, List.getElem_cons_succ]
    rw [← ih]
    have e : (i + 1) * n + o = r.length + (i * n + o) := by rw [h1, Nat.add_mul]; omega
    simp only [splice, e]
    rw [List.take_length_add_append, Nat.add_assoc, List.drop_length_add_append]
    simp
theorem flat_set (n : Nat) : ∀ (R : List (List Value)) (i j : Nat) (u : Value) (hi : i < R.length), (∀ r ∈ R, r.length = n) → j < n → R.flatten.set (i * n + j) u = (R.set i (R[i].set j u)).flatten
  | [], i, j, u, hi, _, _ => absurd hi (by simp)
  | r :: R, 0, j, u, _, h, hj => by
    have := h r (by simp)
    simp only [List.set_cons_zero, List.flatten_cons, List.getElem_cons_zero, Nat.zero_mul, Nat.zero_add]
    rw [List.set_append_left _ _ (by omega)]
  | r :: R, i + 1, j, u, hi, h, hj => by
    have h1 := h r (by simp)
    have ih := flat_set n R i j u (by simpa using hi) (fun r hr => h r (by simp [hr])) hj
    simp only [List.set_cons_succ, List.flatten_cons, List.getElem_cons_succ]
    rw [← ih, List.set_append_right _ _ (by rw [h1, Nat.add_mul]; omega), h1]
    congr 2
    rw [Nat.add_mul]
    omega
/-! ### A sector's cells, a write's cells -/
def secCells (s : Sec) (n : Nat) : List Value := bvs s.lasts ++ [.bool s.marked, .int .i64 (n : Int)]
def wrCells (x : Wr) : List Value := .int .i64 (x.place : Int) :: bvs x.bytes
/-- all sectors' cells: their newest writes by f -/
def secRows (secs : List Sec) (f : Nat → Nat) : List (List Value) := secs.mapIdx (fun i s => secCells s (f i))
def wrRows (way : List Wr) : List (List Value) := way.map wrCells
theorem secCells_len (s : Sec) (n : Nat) (h : s.lasts.length = 384) : (secCells s n).length = 386 := by simp [secCells, bvs_len, h]
theorem secRows_len (secs : List Sec) (f : Nat → Nat) (h : ∀ s ∈ secs, s.lasts.length = 384) : ∀ r ∈ secRows secs f, r.length = 386 := by
  intro r hr
  obtain ⟨i, hi, rfl⟩ := List.mem_mapIdx.1 hr
  exact secCells_len _ _ (h _ (List.getElem_mem hi))
theorem secRows_n (secs : List Sec) (f : Nat → Nat) : (secRows secs f).length = secs.length := by simp [secRows]
theorem secRows_get (secs : List Sec) (f : Nat → Nat) (i : Nat) (hi : i < secs.length) : (secRows secs f)[i]'(by simpa [secRows] using hi) = secCells secs[i] (f i) := by simp [secRows]
theorem wrRows_len (way : List Wr) (h : ∀ x ∈ way, x.bytes.length = 384) : ∀ r ∈ wrRows way, r.length = 385 := by
  intro r hr
  obtain ⟨x, hx, rfl⟩ := List.mem_map.1 hr
  simp [wrCells, bvs_len, h x hx]
theorem wrRows_n (way : List Wr) : (wrRows way).length = way.length := by simp [wrRows]
/-- sector i is turned, its newest write too -/
theorem secRows_set (secs : List Sec) (f f' : Nat → Nat) (i : Nat) (s : Sec) (n : Nat) (hi : i < secs.length) (hn : n = f' i) (hf : ∀ j, j ≠ i → f' j = f j) :
    (secRows secs f).set i (secCells s n) = secRows (secs.set i s) f' := by
  apply List.ext_getElem?
  intro j
  simp only [secRows, List.getElem?_set, List.getElem?_mapIdx, List.length_mapIdx]
  by_cases h : i = j
  · subst h; simp [hi, hn]
  · simp [h, hf j (Ne.symm h)]
/-- the cells of sector i -/
theorem sec_cell (secs : List Sec) (f : Nat → Nat) (h : ∀ s ∈ secs, s.lasts.length = 384) (i j : Nat) (hi : i < secs.length) (hj : j < 386) : (secRows secs f).flatten[i * 386 + j]? = (secCells secs[i] (f i))[j]? := by
  rw [flat_get 386 _ i j (secRows_len secs f h) hj, List.getElem?_eq_getElem (by simpa [secRows] using hi), secRows_get secs f i hi]
  rfl
theorem sec_marked (secs : List Sec) (f : Nat → Nat) (h : ∀ s ∈ secs, s.lasts.length = 384) (i : Nat) (hi : i < secs.length) : (secRows secs f).flatten[i * 386 + 384]? = some (.bool secs[i].marked) := by
  rw [sec_cell secs f h i 384 hi (by omega), secCells, List.getElem?_append_right (by rw [bvs_len, h _ (List.getElem_mem hi)]; omega), bvs_len, h _ (List.getElem_mem hi)]
  rfl
theorem sec_newest (secs : List Sec) (f : Nat → Nat) (h : ∀ s ∈ secs, s.lasts.length = 384) (i : Nat) (hi : i < secs.length) : (secRows secs f).flatten[i * 386 + 385]? = some (.int .i64 (f i : Int)) := by
  rw [sec_cell secs f h i 385 hi (by omega), secCells, List.getElem?_append_right (by rw [bvs_len, h _ (List.getElem_mem hi)]; omega), bvs_len, h _ (List.getElem_mem hi)]
  rfl
theorem sec_byte (secs : List Sec) (f : Nat → Nat) (h : ∀ s ∈ secs, s.lasts.length = 384) (i j : Nat) (hi : i < secs.length) (hj : j < 384) : (secRows secs f).flatten[i * 386 + j]? = (bvs secs[i].lasts)[j]? := by
  rw [sec_cell secs f h i j hi (by omega), secCells, List.getElem?_append_left (by rw [bvs_len, h _ (List.getElem_mem hi)]; omega)]
theorem wr_cell (way : List Wr) (h : ∀ x ∈ way, x.bytes.length = 384) (k j : Nat) (hk : k < way.length) (hj : j < 385) : (wrRows way).flatten[k * 385 + j]? = (wrCells way[k])[j]? := by
  rw [flat_get 385 _ k j (wrRows_len way h) hj, List.getElem?_eq_getElem (by simpa [wrRows] using hk)]
  simp [wrRows]
theorem cells_one_sec (s : Sec) (n : Nat) : ∀ u ∈ secCells s n, u.oneCell' = true := by
  intro u hu
  simp only [secCells, List.mem_append, List.mem_cons, List.not_mem_nil, or_false] at hu
  rcases hu with hu | rfl | rfl
  · exact bvs_one _ u hu
  · rfl
  · rfl
theorem cells_one_wr (x : Wr) : ∀ u ∈ wrCells x, u.oneCell' = true := by
  intro u hu
  simp only [wrCells, List.mem_cons] at hu
  rcases hu with rfl | hu
  · rfl
  · exact bvs_one _ u hu
end Go.Proofs.Ythlapdijnfcekaa
