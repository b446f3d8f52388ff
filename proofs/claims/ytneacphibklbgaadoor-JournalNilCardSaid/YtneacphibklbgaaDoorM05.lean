/-
  The walks of package crc's inner functions: a step, the table, a chain's step.
-/
import Derived.Test.YtneacphibklbgaaDoorRows
import Derived.Test.YtneacphibklbgaaDoorM01
import Derived.Test.YtneacphibklbgaaDoorM04
import Derived.Test.YtneacphibklbgaaDoorM03
namespace Go.Proofs.YtneacphibklbgaaDoor
open Go.RowKit
set_option maxRecDepth 10000

theorem ret_int {k : IntKind} {a b : Int} (h : a = b) : Ending.returned (.int k a) = .returned (.int k b) := by rw [h]
theorem rs_calls (x : BitVec 32) (w : World) :
    Calls Tryd.prog 104 #[.int .u32 (x.toNat : Int)] w fun e w' => e = .returned (.int .u32 ((rs x).toNat : Int)) ∧ w = w' := by
  have h1 : x.toNat < 4294967296 := x.isLt
  have HC := hid (rs_code x)
  go_enter Tryd.func104, Tryd.ntmps104
  go_wp2
  go_ret
  exact ⟨ret_int HC.out, rfl⟩
/-- the table's first k entries; the others are none -/
def tab (k : Nat) : List Value := (List.range k).map (fun i => Value.int .u32 ((rsn 8 (BitVec.ofNat 32 i)).toNat : Int)) ++ List.replicate (256 - k) (.int .u32 0)
theorem tab_len (k : Nat) (h : k ≤ 256) : (tab k).length = 256 := by simp [tab]; omega
theorem tab_zero : tab 0 = List.replicate 256 (.int .u32 0) := by simp only [tab, List.range_zero, List.map_nil, List.nil_append, Nat.sub_zero]
theorem tab_set (k : Nat) (h : k < 256) : (tab k).set k (.int .u32 ((rsn 8 (BitVec.ofNat 32 k)).toNat : Int)) = tab (k + 1) := by
  apply List.ext_getElem?
  intro j
  rw [List.getElem?_set]
  by_cases hj : k = j
  · subst hj
    rw [if_pos rfl, if_pos (by rw [tab_len k (by omega)]; exact h), tab, List.getElem?_append_left (by simp)]
    simp
  · rw [if_neg hj]
    by_cases hlt : j < k
    · rw [tab, tab, List.getElem?_append_left (by simpa using hlt), List.getElem?_append_left (by simp; omega)]
      simp [List.getElem?_range hlt, List.getElem?_range (show j < k + 1 by omega)]
    · rw [tab, tab, List.getElem?_append_right (by simp; omega), List.getElem?_append_right (by simp; omega)]
      simp [List.getElem?_replicate]
      by_cases h2 : j < 256
      · rw [if_pos (by omega), if_pos (by omega)]
      · rw [if_neg (by omega), if_neg (by omega)]
theorem tab_get (i : Nat) (h : i < 256) : (tab 256)[i]? = some (.int .u32 ((rsn 8 (BitVec.ofNat 32 i)).toNat : Int)) := by
  rw [tab, List.getElem?_append_left (by simpa using h)]
  simp [List.getElem?_range h]
theorem tab_one : ∀ u ∈ tab 256, u.oneCell' = true := by
  intro u hu
  simp only [tab, List.mem_append, List.mem_map, List.mem_replicate] at hu
  rcases hu with ⟨i, _, rfl⟩ | ⟨_, rfl⟩ <;> rfl
def z256 : Array Value := (List.replicate 256 (.int .u32 0)).toArray
theorem zero256 (w : World) : (zeroValue 160).run Tryd.prog w = .ok (.agg z256) w := by kernel_rfl
theorem z256_list : z256.toList = tab 0 := by rw [tab_zero]; rfl
set_option maxRecDepth 100000 in
set_option maxHeartbeats 400000 in
theorem table_calls (w : World) :
    Calls Tryd.prog 103 #[] w fun e w' => e = .returned (.agg (tab 256).toArray) ∧ Below w.heap.size w w' := by
  have hz := zero256
  go_enter Tryd.func103, Tryd.ntmps103
  go_wp2_with fail
  go_loopw [4] (fun i wr => ∃ k : Nat, k ≤ 256 ∧ i = .int .i64 k ∧ Row wr w.heap.size 160 (tab 0) ∧ Row wr (w.heap.size + 1) 160 (tab k) ∧ Below w.heap.size w wr) (fun i _ => 256 - (intOf i).toNat)
  case atStart =>
    have h1 := Row.new w 160 z256
    have h2 := Row.new (w.alloc (.cells z256 160)) 160 z256
    rw [z256_list] at h1 h2
    simp only [World.alloc, Array.size_push] at h2
    exact ⟨0, by omega, rfl, h1.alloc _, h2, ((Below.refl _ _).alloc (Nat.le_refl _) _).alloc (by simp) _⟩
  case round =>
    obtain ⟨k, hk, rfl, hr0, hr1, hbe⟩ := hrel
    by_cases hlt : k < 256
    · obtain ⟨u, hu⟩ : ∃ u, (tab k)[k]? = some u := ⟨_, List.getElem?_eq_getElem (by rw [tab_len k hk]; exact hlt)⟩
      have hc := (hr1.cell k).trans hu
      have hf := hr1.frozen k
      have hst := hr1.set_ k (.int .u32 ((rsn 8 (BitVec.ofNat 32 k)).toNat : Int))
      have hst0 := hr0.far (p := ⟨w.heap.size + 1, k, none⟩) (by simp) (.int .u32 ((rsn 8 (BitVec.ofNat 32 k)).toNat : Int))
      have hb2 := hbe.setCell (p := ⟨w.heap.size + 1, k, none⟩) (by simp) (.int .u32 ((rsn 8 (BitVec.ofNat 32 k)).toNat : Int))
      rw [tab_set k hlt] at hst
      have HS := hid hst
      have HS0 := hid hst0
      have HB := hid hb2
      clear hst hr0 hr1 hst0 hb2 hbe hu
      have hd : decide ((k : Int) < 256) = true := by simp; omega
      go_wp2_with fail
      go_loop [3, 9] (fun r i => ∃ j : Nat, j ≤ 8 ∧ i = .int .i64 j ∧ r = .int .u32 ((rsn j (BitVec.ofNat 32 k)).toNat : Int)) (fun _ i => 8 - (intOf i).toNat)
      case atStart => exact ⟨0, by omega, rfl, by simp [rsn]; omega⟩
      case round =>
        obtain ⟨j, hj, rfl, rfl⟩ := hrel
        by_cases hjl : j < 8
        · go_wp2_with (go_at_call 104; refine (rs_calls _ _).mono ?_; rintro e w' ⟨rfl, rfl⟩)
          go_round
          case rel => exact ⟨j + 1, by omega, by go_num, rfl⟩
          case measure => simp [intOf]; omega
        · obtain rfl : j = 8 := by omega
          go_wp2_with fail
          go_roundw
          case rel => exact ⟨k + 1, by omega, by go_num, HS0.out, HS.out, HB.out⟩
          case measure => simp [intOf]; omega
    · obtain rfl : k = 256 := by omega
      have HT : Hid ((tab 256).toArray.size = 256) := hid (by simpa using tab_len 256 (by omega))
      have HR1 := hid hr1
      have HR0 := hid hr0
      have hb0 := hr0.lt
      clear hr0 hr1
      go_wp2_with (first
        | (refine wpList_load_row rfl 160 (.tmp 1) rfl (w.heap.size + 1) rfl 160 (tab 256).toArray (0, 0) _ HR1.out Tryd.underlying160 rfl (by rw [HT.out]; kernel_rfl) ?_)
        | (refine wpList_store_row rfl 160 (.tmp 0) (.tmp 18) rfl w.heap.size (tab 256).toArray rfl rfl 160 (tab 0).toArray HR0.out (by rw [HT.out]; kernel_rfl) (by rw [HT.out]; simpa using tab_len 0 (by omega)) ?_ ?_))
      · rw [Array.all_eq_true']
        intro u hu
        exact tab_one u (by simpa using hu)
      · have hg := setRow_heap wr w.heap.size _ (tab 256).toArray 160 (0, 0) HR0.out
        exact bodyPost_ret (v := .agg (tab 256).toArray) (results_cell_row rfl _ _ w.heap.size 160 (tab 256).toArray (0, 0) _ rfl hg Tryd.underlying160 rfl (by rw [HT.out]; kernel_rfl)) rfl
          ⟨rfl, hbe.trans (below_grown (grownBy_setRow wr w.heap.size _) (Nat.le_refl _) (by omega))⟩
end Go.Proofs.YtneacphibklbgaaDoor
/-
  The walks of Add and Sum, and of the answers held against them.
-/
namespace Go.Proofs.YtneacphibklbgaaDoor
open Go.RowKit
set_option maxRecDepth 10000

/-- what Add answers -/
def addS (x : BitVec 32) (l : List UInt8) : BitVec 32 := ~~~ byAll (~~~x) l
set_option maxRecDepth 100000 in
set_option maxHeartbeats 400000 in
theorem add_calls (x : BitVec 32) (s : ByteArray) (w : World) (hs : s.size ≤ 1125899906842624) :
    Calls Tryd.prog 100 #[.int .u32 (x.toNat : Int), .string s] w fun e w' => e = .returned (.int .u32 ((addS x (sb s)).toNat : Int)) ∧ Below w.heap.size w w' := by
  have hz := zero256
  have HT : Hid ((tab 256).toArray.size = 256) := hid (by simpa using tab_len 256 (by omega))
  have HZ : Hid (z256.size = 256) := hid (by rfl)
  have hsg : IntKind.u32.signed = false := rfl
  have hmx : IntKind.u32.max = 4294967295 := rfl
  go_enter Tryd.func100, Tryd.ntmps100
  go_wp2_with (first
    | (go_at_call 103; refine (table_calls _).mono ?_; rintro e w1 ⟨rfl, hb1⟩)
    | (refine wpList_store_row rfl 160 (.tmp 5) (.tmp 9) rfl w1.heap.size (tab 256).toArray rfl rfl 160 z256 (heap_alloc_new _ _) (by rw [HT.out]; kernel_rfl) (by rw [HT.out, HZ.out]) ?_ ?_)
    | (with_reducible refine wpl_bytes rfl _ _ _ rfl 5 Tryd.underlying9 Tryd.underlying96 Tryd.underlying5 s rfl ?_; intro g c k w2 HG HC HR HB))

  · rw [Array.all_eq_true']
    intro u hu
    exact tab_one u (by simpa using hu)
  have hb2 : Below w.heap.size w w2 := ((hb1.alloc hb1.size _).trans (below_grown (grownBy_setRow _ w1.heap.size _) (hb1.size) (by simp; have := hb1.size; omega))).trans (HB.mono (by simp [World.setRow]; have := hb1.size; omega))
  have hT : Row w2 w1.heap.size 160 (tab 256) := Row.below (by
    have := setRow_heap (w1.alloc (.cells z256 160)) w1.heap.size _ (tab 256).toArray 160 (0, 0) (heap_alloc_new _ _)
    exact this) HB (by simp [World.setRow])
  have HB2 := hid hb2
  have HT2 := hid hT
  have HS := hid (sb_len s)
  clear hb2 hT HB hb1
  have hn := not_code x
  go_loop [6, 15] (fun r i => ∃ k : Nat, k ≤ s.size ∧ i = .int .i64 k ∧ r = .int .u32 ((byAll (~~~x) ((sb s).take k)).toNat : Int)) (fun _ i => s.size - (intOf i).toNat)
  case atStart => exact ⟨0, by omega, rfl, by rw [hn]; rfl⟩
  case round =>
    obtain ⟨k, hk, rfl, rfl⟩ := hrel
    by_cases hlt : k < s.size
    · have hkl : k < (sb s).length := by rw [HS.out]; exact hlt
      have hc := HR.cell k
      rw [List.getElem?_append_left (by rw [bvs_len]; exact hkl)] at hc
      simp only [bvs, List.getElem?_map, List.getElem?_eq_getElem hkl, Option.map_some, bv] at hc
      have hstep : byAll (~~~x) ((sb s).take (k + 1)) = byStep (byAll (~~~x) ((sb s).take k)) (sb s)[k] := by
        rw [List.take_succ_eq_append_getElem hkl, byAll_app]; rfl
      generalize hb : (sb s)[k] = b at hc hstep
      generalize hx : byAll (~~~x) ((sb s).take k) = r at hstep ⊢
      have h1 : r.toNat < 4294967296 := r.isLt
      have h2 : b.toNat < 256 := UInt8.toNat_lt b
      have hix := idx_code r b
      have htc := tab_code r b
      generalize hm : (r.setWidth 8 ^^^ b.toBitVec).toNat = m at hix htc
      have hm2 : m < 256 := by rw [← hm]; exact BitVec.isLt _
      have hcell := (HT2.out.cell m).trans (tab_get m hm2)
      have HST := hid hstep
      have HTC := hid htc
      clear hb hx hstep htc hm
      go_wp2_with fail
      go_round
      case rel => exact ⟨k + 1, by omega, by go_num, by rw [HST.out, HTC.out]⟩
      case measure => simp [intOf]; omega
    · obtain rfl : k = s.size := by omega
      have hxt : byAll (~~~x) ((sb s).take s.size) = byAll (~~~x) (sb s) := by rw [List.take_of_length_le (by rw [HS.out]; exact Nat.le_refl _)]
      have hn2 := not_code (byAll (~~~x) (sb s))
      rw [hxt]
      have HN := hid hn2
      clear hn2 hxt
      go_wp2_with fail
      go_ret
      exact ⟨ret_int HN.out, HB2.out⟩
end Go.Proofs.YtneacphibklbgaaDoor
/-
  The walks of Sum, and of the document's Add and Sum.
-/
namespace Go.Proofs.YtneacphibklbgaaDoor
open Go.RowKit
set_option maxRecDepth 10000

theorem u32_zero : ((0#32 : BitVec 32).toNat : Int) = 0 := rfl
set_option maxHeartbeats 400000 in
theorem sum_calls (s : ByteArray) (w : World) (hs : s.size ≤ 1125899906842624) :
    Calls Tryd.prog 90 #[.string s] w fun e w' => e = .returned (.int .u32 ((addS 0#32 (sb s)).toNat : Int)) ∧ Below w.heap.size w w' := by
  have P := fun W => add_calls 0#32 s W hs
  simp only [u32_zero] at P
  have H := hid P
  clear P
  go_enter Tryd.func90, Tryd.ntmps90
  go_wp2_with (go_at_call 100; refine (H.out _).mono ?_; rintro e w1 ⟨rfl, hb1⟩)
  go_ret
  exact ⟨rfl, hb1⟩
end Go.Proofs.YtneacphibklbgaaDoor
/-
  The walks of package seal's lay, and of the document's With: the one sealed sector of a byte and a text.
-/
namespace Go.Proofs.YtneacphibklbgaaDoor
open Go.RowKit
set_option maxRecDepth 10000

/-- a text -/
def SE (w : World) (r : List UInt8) (e : Ending) (w' : World) : Prop := e = .returned (.string ⟨r.toArray⟩) ∧ Below w.heap.size w w'
/-- the bytes ahead of the sum -/
def headS (g : UInt8) (s : List UInt8) : List UInt8 := [g] ++ le s.length 2 ++ s ++ List.replicate (376 - s.length) 0
/-- the sum's bytes -/
def sumS (l : List UInt8) : List UInt8 := le (addS 0#32 l).toNat 4
/-- the sealed sector -/
def layS (g : UInt8) (s : List UInt8) : List UInt8 := headS g s ++ sumS (headS g s) ++ [g]
theorem headS_len (g : UInt8) (s : List UInt8) (h : s.length ≤ 376) : (headS g s).length = 379 := by simp [headS, le_len]; omega
theorem sumS_len (l : List UInt8) : (sumS l).length = 4 := le_len _ _
theorem layS_len (g : UInt8) (s : List UInt8) (h : s.length ≤ 376) : (layS g s).length = 384 := by simp [layS, headS_len g s h, sumS_len]
theorem own_base {w : World} {B B' e size n : Nat} {v : Value} {xs : List Value} (h : w.ownsRow B e size v n xs) (hB : B' ≤ B) : w.ownsRow B' e size v n xs := by
  obtain ⟨h1, h2⟩ := h
  refine ⟨h1, ?_⟩
  rcases h2 with h2 | ⟨g, cap, cur, e1, a, b⟩
  · exact .inl h2
  · exact .inr ⟨g, cap, cur, e1, by omega, b⟩
theorem bvs_zero (n : Nat) : List.replicate n (Value.int .u8 0) = bvs (List.replicate n 0) := by simp [bvs, bv]
/-- PutText behind one byte -/
theorem pt_one (g : UInt8) (s : ByteArray) (hs : s.size ≤ 376) (W : World) : Calls Tryd.prog 93 #[.slice (some ⟨W.heap.size, 0, none⟩) 1 1, .string s] (W.alloc (.cells #[.int .u8 (g.toNat : Int)] 5))
    fun e w' => ∃ A c, e = .returned (.tuple #[.slice A (s.size + 3) c, .int .i64 0]) ∧ w'.ownsRow W.heap.size 5 1 (.slice A (s.size + 3) c) (s.size + 3) (bvs ([g] ++ le s.size 2 ++ sb s)) ∧ Below W.heap.size W w' := by
  have h := pt_ok (some ⟨W.heap.size, 0, none⟩) [g] 1 1 (W.heap.size + 1) s (W.alloc (.cells #[.int .u8 (g.toNat : Int)] 5)) (Row.rd (cs := bvs [g]) (Row.new W 5 _) (by omega)) rfl (by simp) (by omega) (by omega)
  refine h.mono fun e w' hh => ?_
  obtain ⟨A, c, e1, e2, e3⟩ := hh.len (n := s.size + 3) (by simp [le_len, sb_len]; omega)
  exact ⟨A, c, e1, own_base e2 (by simp), ((Below.refl _ _).alloc (Nat.le_refl _) _).trans (e3.mono (by simp))⟩
/-- Put of a sum -/
theorem put_sum (A : Option Addr) (bs : List UInt8) (c B : Nat) (x : BitVec 32) (W : World) (hr : Rd W B A (bvs bs)) (hl : bs.length = 379) (hB : B ≤ W.heap.size) :
    Calls Tryd.prog 94 #[.slice A 379 c, .int .u64 (x.toNat : Int), .int .i64 4] W
    fun e w' => ∃ A c, e = .returned (.tuple #[.slice A 383 c, .int .i64 0]) ∧ w'.ownsRow W.heap.size 5 1 (.slice A 383 c) 383 (bvs (bs ++ le x.toNat 4)) ∧ Below W.heap.size W w' := by
  have h := put_any A bs 379 c x.toNat B 4 W hr hl.symm hB (by omega)
  have e : putS bs x.toNat 4 = (bs ++ le x.toNat 4, 0) := by
    unfold putS
    rw [if_pos ⟨by omega, by omega, Nat.div_eq_of_lt x.isLt⟩]
    rfl
  rw [e] at h
  exact h.mono fun e w' hh => hh.len (by simp [le_len, hl])
theorem sum_of (b : List UInt8) (hb : b.length = 379) (W : World) : Calls Tryd.prog 90 #[.string ⟨b.toArray⟩] W fun e w' => e = .returned (.int .u32 ((addS 0#32 b).toNat : Int)) ∧ Below W.heap.size W w' := by
  have h := sum_calls ⟨b.toArray⟩ W (by rw [← sb_len, sb_mk]; omega)
  rw [sb_mk] at h
  exact h
set_option maxHeartbeats 1000000 in
theorem lay_calls (g : UInt8) (s : ByteArray) (hs : s.size ≤ 376) (w : World) :
    Calls Tryd.prog 80 #[.int .u8 (g.toNat : Int), .string s] w (SE w (layS g (sb s))) := by
  obtain ⟨i0, hi, hz0, hz1, hz2⟩ := info_parts u8info
  have P1 := hid (pt_one g s hs w)
  have hsl := sb_len s
  have hb := headS_len g (sb s) (by omega)
  have hhead : bvs ([g] ++ le s.size 2 ++ sb s) ++ List.replicate (376 - s.size) (.int .u8 0) = bvs (headS g (sb s)) := by
    rw [bvs_zero, ← bvs_app, headS, hsl]
  have P2 := hid (sum_of (headS g (sb s)) hb)
  have hx : (addS 0#32 (headS g (sb s))).toNat < 4294967296 := (addS 0#32 (headS g (sb s))).isLt
  have P3 := hid (fun A c B W hr hB => put_sum A (headS g (sb s)) c B (addS 0#32 (headS g (sb s))) W hr hb hB)
  have hfin : layS g (sb s) = headS g (sb s) ++ le (addS 0#32 (headS g (sb s))).toNat 4 ++ [g] := rfl
  have hlen : 383 + 1 = (headS g (sb s) ++ le (addS 0#32 (headS g (sb s))).toNat 4 ++ [g]).length := by simp [hb, le_len]
  generalize headS g (sb s) = H at hb hhead P2 hx P3 hfin hlen
  generalize addS 0#32 H = x at P2 hx P3 hfin hlen
  have HH := hid hhead
  have HF := hid hfin
  have HB := hid hb
  have HL := hid hlen
  have HS := hid hs
  have HE : Hid (bvs (H ++ le x.toNat 4) ++ [.int .u8 (g.toNat : Int)] = bvs (layS g (sb s))) := hid (by rw [hfin, bvs_app _ [g]]; rfl)
  clear hhead hfin hb hsl hlen
  go_enter Tryd.func80, Tryd.ntmps80
  have HN : Hid (s.size + 3 + (376 - s.size) = 379) := hid (by have := HS.out; omega)
  go_wp2_with (first
    | (go_at_call 93; refine P1.out.mono ?_; rintro e w1 ⟨A1, c1, rfl, hown1, hb1⟩)
    | (with_reducible refine wpl_append_zeros rfl _ _ 96 3 rfl w.heap.size 5 i0 .i64 Tryd.underlying96 Tryd.underlying3 hi hz0 hz1 hz2 (.slice A1 (s.size + 3) c1) (s.size + 3) _ rfl hown1 _ (376 - s.size) rfl ?_ ?_ ?_ ?_ ?_; intro v2 w2 hown2 hb2 hg2; rw [HH.out, HN.out] at hown2; obtain ⟨A2, c2, rfl, -, -, hrd2⟩ := own_shape hown2)
    | (with_reducible refine wpl_str rfl _ 96 9 rfl 5 Tryd.underlying96 Tryd.underlying5 Tryd.underlying9 A2 379 c2 rfl w2.heap.size H ?_ (hid hrd2) (hid HB.out.symm))
    | (go_at_call 90; refine (P2.out _).mono ?_; rintro e w3 ⟨rfl, hb3⟩)
    | (go_at_call 94; refine (P3.out A2 c2 w2.heap.size _ (hrd2.below hb3 (Nat.le_refl _)) hb3.size).mono ?_; rintro e w4 ⟨A4, c4, rfl, hown4, hb4⟩)
    | (with_reducible refine wpl_append rfl _ _ 96 rfl w3.heap.size 5 i0 _ 1 1 Tryd.underlying96 hi hz0 hz1 hz2 rfl (by omega) (.slice A4 383 c4) 383 _ rfl (hown4.alloc _) (w4.heap.size + 1) (some ⟨w4.heap.size, 0, none⟩) 1 1 [.int .u8 (g.toNat : Int)] rfl ?_ ?_ ?_ ?_ ?_ ?_ ?_; intro v5 w5 hown5 hb5 hg5; rw [HE.out] at hown5; obtain ⟨A5, c5, rfl, -, -, hrd5⟩ := own_shape hown5)
    | (with_reducible refine wpl_str rfl _ 96 9 rfl 5 Tryd.underlying96 Tryd.underlying5 Tryd.underlying9 A5 (383 + 1) c5 rfl w5.heap.size (layS g (sb s)) ?_ (hid hrd5) (hid (by rw [HF.out]; exact HL.out))))
  rotate_left
  · refine hid fun _ => ⟨_, _, rfl, by omega, ?_⟩
    intro j u hu
    match j, hu with
    | 0, hu => simp at hu; subst hu; simp
  · exact hid rfl
  · exact hid (by intro u hu; simp at hu; subst hu; rfl)
  · exact hid (le_maxLen (by omega))
  · exact hid (by omega)
  · exact hid (by have := hb4.size; simp; omega)
  · exact hid (by have := HS.out; omega)
  · exact hid (by omega)
  · exact hid (by have := HS.out; omega)
  · exact hid hb1.size
  have hbe2 := hb1.trans hb2
  go_ret
  refine ⟨rfl, ?_⟩
  have s2 := hbe2.size
  have s3 := hb3.size
  have s4 := hb4.size
  exact ((hbe2.trans (hb3.mono s2)).trans (hb4.mono (by omega))).trans ((Below.refl _ _).alloc (by omega) _ |>.trans (hb5.mono (by omega)))
end Go.Proofs.YtneacphibklbgaaDoor
/-
  The walks of package seal's next and Seal, and of the document's Seal.
-/
namespace Go.Proofs.YtneacphibklbgaaDoor
open Go.RowKit
set_option maxRecDepth 10000

/-- the guard behind the one at the end -/
def nextS (old : List UInt8) : UInt8 := if old.length = 0 then 1 else old.getD (old.length - 1) 0 + 1
/-- what Seal answers -/
def sealS (old s : List UInt8) : List UInt8 × Int := if 376 < s.length then ([], 5) else (layS (nextS old) s, 0)
/-- a text and an error's number -/
def SN (w : World) (r : List UInt8 × Int) (e : Ending) (w' : World) : Prop :=
  e = .returned (.tuple #[.string ⟨r.1.toArray⟩, .int .i64 r.2]) ∧ Below w.heap.size w w'
theorem empty_of {s : ByteArray} (h : s.size = 0) : s = ⟨#[]⟩ := by
  rcases s with ⟨d⟩
  have : d.size = 0 := h
  rw [Array.size_eq_zero_iff.1 this]
theorem full_of {s : ByteArray} (h : ¬ s.size = 0) : s.toList.isEmpty = false := by
  rw [ByteArray.toList_eq]
  cases hl : s.data.toList with
  | nil => exact absurd (show s.size = 0 by rw [← sb_len, sb, hl]; rfl) h
  | cons _ _ => rfl
theorem last_of (s : ByteArray) (h : 0 < s.size) : nextS (sb s) = s[s.size - 1]'(by omega) + 1 := by
  unfold nextS
  rw [if_neg (by rw [sb_len]; omega), sb_len, List.getD, List.getElem?_eq_getElem (by rw [sb_len]; omega)]
  rfl
theorem u8_next (c : UInt8) : ((c.toNat : Int) + 1) % 256 = (((c + 1).toNat : Nat) : Int) := by
  rw [UInt8.toNat_add]
  simp
theorem next_calls (old : ByteArray) (w : World) (hold : old.size ≤ 1125899906842624) :
    Calls Tryd.prog 81 #[.string old] w fun e w' => e = .returned (.int .u8 ((nextS (sb old)).toNat : Int)) ∧ w = w' := by
  by_cases h : old.size = 0
  · obtain rfl := empty_of h
    go_enter Tryd.func81, Tryd.ntmps81
    go_wp2_with fail
    go_ret
    exact ⟨rfl, rfl⟩
  · have hl := last_of old (by omega)
    have hne := full_of h
    have hlt : old.size - 1 < old.size := by omega
    have hu := u8_next (old[old.size - 1]'hlt)
    have h8 := UInt8.toNat_lt (old[old.size - 1]'hlt)
    have HL := hid hl
    have HU := hid hu
    clear hl hu
    go_enter Tryd.func81, Tryd.ntmps81
    go_wp2_with fail
    go_ret
    exact ⟨by rw [HL.out]; exact ret_int HU.out, rfl⟩
set_option maxHeartbeats 400000 in
theorem seal_calls (old s : ByteArray) (w : World) (hold : old.size ≤ 1125899906842624) :
    Calls Tryd.prog 66 #[.string old, .string s] w (SN w (sealS (sb old) (sb s))) := by
  unfold sealS
  rw [sb_len]
  by_cases h : 376 < s.size
  · rw [if_pos h]
    have hI : (376 : Int) < s.size := by omega
    go_enter Tryd.func66, Tryd.ntmps66
    go_wp2_with fail
    go_ret2
    exact ⟨rfl, Below.refl _ _⟩
  · rw [if_neg h]
    have hI : (s.size : Int) ≤ 376 := by omega
    have H1 := hid (next_calls old w hold)
    have H2 := hid (lay_calls (nextS (sb old)) s (by omega) w)
    clear h
    go_enter Tryd.func66, Tryd.ntmps66
    go_wp2_with (first
      | (go_at_call 81; refine H1.out.mono ?_; rintro e w1 ⟨rfl, rfl⟩)
      | (go_at_call 80; refine H2.out.mono ?_; rintro e w2 ⟨rfl, hb2⟩))
    go_ret2
    exact ⟨rfl, hb2⟩
end Go.Proofs.YtneacphibklbgaaDoor
/-
  The walks of package seal's Open and of the document's.
-/
namespace Go.Proofs.YtneacphibklbgaaDoor
open Go.RowKit
set_option maxRecDepth 10000

/-- what Open answers -/
def openS (l : List UInt8) : List UInt8 × Bool :=
  if l.length = 384 ∧ (ttS l 1 376).2.2 = 0 ∧ layS (l.getD 0 0) (ttS l 1 376).1 = l then ((ttS l 1 376).1, true) else ([], false)
/-- a text and whether there is one -/
def SB (w : World) (r : List UInt8 × Bool) (e : Ending) (w' : World) : Prop :=
  e = .returned (.tuple #[.string ⟨r.1.toArray⟩, .bool r.2]) ∧ Below w.heap.size w w'
theorem tt_len (l : List UInt8) (h : (ttS l 1 376).2.2 = 0) : (ttS l 1 376).1.length ≤ 376 := by
  unfold ttS at h ⊢
  split at h
  · rename_i h1; exact absurd h h1
  · split at h
    · cases h
    · rename_i h1 h2
      rw [if_neg h1, if_neg h2]
      unfold ttN
      split
      · simp
      · simp; omega
theorem bytes_rd {W : World} {g k : Nat} {s : ByteArray} (h : FRow W g 5 (bvs (sb s) ++ List.replicate k (.int .u8 0))) : Rd W (g + 1) (some ⟨g, 0, none⟩) (bvs (sb s)) := by
  have h1 := (h.rd (B := g + 1) (by omega)).take (bvs (sb s)).length
  rwa [List.take_left] at h1
theorem str_ne {a b : ByteArray} (h : a ≠ b) : (a.toList == b.toList) = false := by
  rw [beq_eq_false_iff_ne, ByteArray.toList_eq, ByteArray.toList_eq]
  intro e
  apply h
  rcases a with ⟨a⟩
  rcases b with ⟨b⟩
  simp only [Array.toList_inj] at e
  rw [e]
theorem mk_ne' {a : List UInt8} {b : ByteArray} (h : a ≠ sb b) : (⟨a.toArray⟩ : ByteArray) ≠ b := by
  intro e
  apply h
  rw [← e, sb_mk]
theorem first_of (s : ByteArray) (h : 0 < s.size) : (sb s).getD 0 0 = s[0] := by
  rw [List.getD, List.getElem?_eq_getElem (by rw [sb_len]; exact h)]
  rfl
set_option maxHeartbeats 1000000 in
theorem open_calls (s : ByteArray) (w : World) :
    Calls Tryd.prog 82 #[.string s] w (SB w (openS (sb s))) := by
  by_cases h384 : s.size = 384
  · have hsl := sb_len s
    have T := fun A c B W hr hc hB => tt_any A (sb s) 384 c B 1 376 W hr (by omega) (by omega) hc hB
    have hlen := tt_len (sb s)
    have hop : openS (sb s) = if (ttS (sb s) 1 376).2.2 = 0 ∧ layS ((sb s).getD 0 0) (ttS (sb s) 1 376).1 = sb s then ((ttS (sb s) 1 376).1, true) else ([], false) := by
      unfold openS
      simp [hsl, h384]
    have hfirst := first_of s (by omega)
    rw [hfirst] at hop
    generalize ttS (sb s) 1 376 = r at T hlen hop
    obtain ⟨t, n, e⟩ := r
    dsimp only at hlen hop
    have HT := hid T
    have HO := hid hop
    have h0 : (0 : Int) < s.size := by omega
    clear T hop hfirst hsl
    by_cases he : e = 0
    · subst he
      have hl := hlen rfl
      have HLay := hid (fun W => lay_calls (s[0]'(by omega)) ⟨t.toArray⟩ (by rw [← sb_len, sb_mk]; exact hl) W)
      rw [sb_mk] at HLay
      by_cases heq : layS (s[0]'(by omega)) t = sb s
      · have HR : Hid (openS (sb s) = (t, true)) := hid (by rw [HO.out, if_pos ⟨rfl, heq⟩])
        have hseq : (⟨(layS (s[0]'(by omega)) t).toArray⟩ : ByteArray) = s := by rw [heq, mk_sb]
        have HL2 : Hid (∀ W, Calls Tryd.prog 80 #[.int .u8 ((s[0]'(by omega)).toNat : Int), .string ⟨t.toArray⟩] W fun e W' => e = .returned (.string s) ∧ Below W.heap.size W W') := hid fun W => (HLay.out W).mono fun e W' hh => by rw [← hseq]; exact hh
        have hz := h384
        clear heq hlen HO hseq HLay
        go_enter Tryd.func82, Tryd.ntmps82
        go_wp2_with (first
          | (with_reducible refine wpl_bytes rfl _ _ _ rfl 5 Tryd.underlying9 Tryd.underlying96 Tryd.underlying5 s rfl ?_; intro g c k w1 HG HC HRow HB)
          | (go_at_call 95; refine (HT.out (some ⟨g, 0, none⟩) c (g + 1) w1 (bytes_rd HRow) (by have := HC.out; omega) (by have := HRow.lt; omega)).mono ?_; rintro e w2 ⟨rfl, hb2⟩)
          | (go_at_call 80; refine (HL2.out _).mono ?_; rintro e w3 ⟨rfl, hb3⟩))
        go_ret2
        rw [HR.out]
        exact ⟨rfl, (HB.trans (hb2.mono HB.size)).trans (hb3.mono (Nat.le_trans HB.size hb2.size))⟩
      · have HR : Hid (openS (sb s) = ([], false)) := hid (by rw [HO.out, if_neg (fun h => heq h.2)])
        have hne : (⟨(layS (s[0]'(by omega)) t).toArray⟩ : ByteArray) ≠ s := mk_ne' heq
        obtain ⟨L, hL, HL2⟩ : ∃ L : ByteArray, L ≠ s ∧ Hid (∀ W, Calls Tryd.prog 80 #[.int .u8 ((s[0]'(by omega)).toNat : Int), .string ⟨t.toArray⟩] W fun e W' => e = .returned (.string L) ∧ Below W.heap.size W W') := ⟨_, hne, hid fun W => HLay.out W⟩
        have hz := h384
        have hn2 := str_ne hL
        clear heq hlen HO HLay hne hL
        go_enter Tryd.func82, Tryd.ntmps82
        go_wp2_with (first
          | (with_reducible refine wpl_bytes rfl _ _ _ rfl 5 Tryd.underlying9 Tryd.underlying96 Tryd.underlying5 s rfl ?_; intro g c k w1 HG HC HRow HB)
          | (go_at_call 95; refine (HT.out (some ⟨g, 0, none⟩) c (g + 1) w1 (bytes_rd HRow) (by have := HC.out; omega) (by have := HRow.lt; omega)).mono ?_; rintro e w2 ⟨rfl, hb2⟩)
          | (go_at_call 80; refine (HL2.out _).mono ?_; rintro e w3 ⟨rfl, hb3⟩))
        go_ret2
        rw [HR.out]
        exact ⟨rfl, (HB.trans (hb2.mono HB.size)).trans (hb3.mono (Nat.le_trans HB.size hb2.size))⟩
    · have HR : Hid (openS (sb s) = ([], false)) := hid (by rw [HO.out, if_neg (fun h => he h.1)])
      have hne : (e != 0) = true := by simpa using he
      have hz := h384
      clear hlen HO he
      go_enter Tryd.func82, Tryd.ntmps82
      go_wp2_with (first
        | (with_reducible refine wpl_bytes rfl _ _ _ rfl 5 Tryd.underlying9 Tryd.underlying96 Tryd.underlying5 s rfl ?_; intro g c k w1 HG HC HRow HB)
        | (go_at_call 95; refine (HT.out (some ⟨g, 0, none⟩) c (g + 1) w1 (bytes_rd HRow) (by have := HC.out; omega) (by have := HRow.lt; omega)).mono ?_; rintro e w2 ⟨rfl, hb2⟩))
      go_ret2
      rw [HR.out]
      exact ⟨rfl, HB.trans (hb2.mono HB.size)⟩
  · have hne : ((s.size : Int) != 384) = true := by simp; omega
    have HR : Hid (openS (sb s) = ([], false)) := hid (by unfold openS; rw [if_neg (by rw [sb_len]; exact fun h => h384 h.1)])
    clear h384
    go_enter Tryd.func82, Tryd.ntmps82
    go_wp2_with fail
    go_ret2
    rw [HR.out]
    exact ⟨rfl, Below.refl _ _⟩
end Go.Proofs.YtneacphibklbgaaDoor
/-
  Plain words on sealed sectors: what was sealed is opened, what was torn or turned is not.
-/
namespace Go.Proofs.YtneacphibklbgaaDoor

theorem leV_le : ∀ (k n : Nat), n / 2 ^ (8 * k) = 0 → leV (le n k) = n
  | 0, n, h => by simp at h; subst h; rfl
  | k + 1, n, h => by
    have h2 : n / 256 / 2 ^ (8 * k) = 0 := by
      rw [Nat.div_div_eq_div_mul, show 256 * 2 ^ (8 * k) = 2 ^ (8 * (k + 1)) from by rw [show 8 * (k + 1) = 8 + 8 * k by omega, Nat.pow_add]]
      exact h
    have := leV_le k (n / 256) h2
    simp only [le, leV, this]
    simp
    omega
theorem le_inj (k n m : Nat) (hn : n / 2 ^ (8 * k) = 0) (hm : m / 2 ^ (8 * k) = 0) (h : le n k = le m k) : n = m := by
  rw [← leV_le k n hn, ← leV_le k m hm, h]
theorem byStep_byte (r : BitVec 32) (c d : UInt8) (h : byStep r c = byStep r d) : c = d := by
  have h1 := rsn_inj 8 _ _ h
  have h2 : r ^^^ (r ^^^ c.toBitVec.setWidth 32) = r ^^^ (r ^^^ d.toBitVec.setWidth 32) := by rw [h1]
  rw [← BitVec.xor_assoc, ← BitVec.xor_assoc, BitVec.xor_self, BitVec.zero_xor, BitVec.zero_xor] at h2
  have h3 := congrArg (fun z : BitVec 32 => z.setWidth 8) h2
  simp at h3
  exact UInt8.toBitVec_inj.1 h3
theorem byAll_one (r : BitVec 32) (a z : List UInt8) (c d : UInt8) (h : byAll r (a ++ c :: z) = byAll r (a ++ d :: z)) : c = d := by
  rw [byAll_app, byAll_app] at h
  exact byStep_byte _ c d (byAll_inj z _ _ h)
theorem addS_set (l : List UInt8) (i : Nat) (hi : i < l.length) (c : UInt8) (h : addS 0#32 (l.set i c) = addS 0#32 l) : c = l[i] := by
  unfold addS at h
  have h1 := BitVec.not_inj.1 h
  have h2 : l = l.take i ++ l[i] :: l.drop (i + 1) := by rw [← List.drop_eq_getElem_cons hi, List.take_append_drop]
  have h3 : l.set i c = l.take i ++ c :: l.drop (i + 1) := by rw [List.set_eq_take_append_cons_drop, if_pos hi]
  rw [h3] at h1
  conv at h1 => rhs; rw [h2]
  exact byAll_one _ _ _ _ _ h1
theorem sumS_inj (a b : List UInt8) (h : sumS a = sumS b) : addS 0#32 a = addS 0#32 b :=
  BitVec.eq_of_toNat_eq (le_inj 4 _ _ (Nat.div_eq_of_lt (BitVec.isLt _)) (Nat.div_eq_of_lt (BitVec.isLt _)) h)
/-- what each sealed sector has -/
def Good (l : List UInt8) : Prop := l.length = 384 ∧ (l.drop 379).take 4 = sumS (l.take 379) ∧ l[383]? = l[0]?
theorem lay_take (g : UInt8) (s : List UInt8) (h : s.length ≤ 376) : (layS g s).take 379 = headS g s := by
  have := headS_len g s h
  unfold layS
  rw [List.append_assoc, List.take_append_of_le_length (by omega), List.take_of_length_le (by omega)]
theorem lay_drop (g : UInt8) (s : List UInt8) (h : s.length ≤ 376) : (layS g s).drop 379 = sumS (headS g s) ++ [g] := by
  have := headS_len g s h
  unfold layS
  rw [List.append_assoc, ← this, List.drop_left]
theorem lay_first (g : UInt8) (s : List UInt8) : (layS g s)[0]? = some g := by simp [layS, headS]
theorem lay_last (g : UInt8) (s : List UInt8) (h : s.length ≤ 376) : (layS g s)[383]? = some g := by
  have h1 := headS_len g s h
  have h2 := sumS_len (headS g s)
  unfold layS
  rw [List.getElem?_append_right (by simp [h1, h2])]
  simp [h1, h2]
theorem lay_good (g : UInt8) (s : List UInt8) (h : s.length ≤ 376) : Good (layS g s) := by
  refine ⟨layS_len g s h, ?_, by rw [lay_first, lay_last g s h]⟩
  rw [lay_drop g s h, lay_take g s h, List.take_append_of_le_length (by rw [sumS_len]; omega), List.take_of_length_le (by rw [sumS_len]; omega)]
theorem open_not (l : List UInt8) (h : ¬ Good l) : openS l = ([], false) := by
  unfold openS
  rw [if_neg]
  rintro ⟨h1, h2, h3⟩
  apply h
  rw [← h3]
  exact lay_good _ _ (tt_len l h2)
theorem open_lay (g : UInt8) (s : List UInt8) (h : s.length ≤ 376) : openS (layS g s) = (s, true) := by
  have hl := layS_len g s h
  have h0 : (layS g s).getD 0 0 = g := by rw [List.getD, lay_first]; rfl
  have hsp : layS g s = [g] ++ (le s.length 2 ++ (s ++ (List.replicate (376 - s.length) 0 ++ (sumS (headS g s) ++ [g])))) := by simp [layS, headS]
  have ht : takeS (layS g s) 1 2 = (s.length, 0) := by
    unfold takeS
    rw [if_neg (by omega), if_neg (by rw [hl]; omega)]
    congr 1
    show leV (((layS g s).drop 1).take 2) = s.length
    rw [hsp]
    show leV ((le s.length 2 ++ (s ++ (List.replicate (376 - s.length) 0 ++ (sumS (headS g s) ++ [g])))).take 2) = s.length
    rw [List.take_append_of_le_length (by rw [le_len]; omega), List.take_of_length_le (by rw [le_len]; omega)]
    exact leV_le 2 _ (Nat.div_eq_of_lt (by omega))
  have hd : ((layS g s).drop 3).take s.length = s := by
    rw [hsp]
    have h2 : (le s.length 2).length = 2 := le_len _ _
    show ((le s.length 2 ++ (s ++ (List.replicate (376 - s.length) 0 ++ (sumS (headS g s) ++ [g])))).drop 2).take s.length = s
    generalize le s.length 2 = p at h2
    rw [← h2, List.drop_left, List.take_left]
  have htt : ttS (layS g s) 1 376 = (s, 1 + 2 + (s.length : Int), 0) := by
    unfold ttS
    rw [ht]
    rw [if_neg (by simp), if_neg (by simp; omega)]
    unfold ttN
    show (if (layS g s).length < 1 + 2 + s.length then _ else _) = _
    rw [if_neg (by omega)]
    show (((layS g s).drop 3).take s.length, _) = _
    rw [hd]
    rfl
  unfold openS
  rw [htt, h0, if_pos ⟨hl, rfl, rfl⟩]
theorem tears_not (g : UInt8) (s old : List UInt8) (cut : Nat) (h : s.length ≤ 376) (hg : old.getD 383 0 ≠ g) (h0 : 0 < cut) (h1 : cut < 384) :
    openS ((layS g s).take cut ++ old.drop cut) = ([], false) := by
  apply open_not
  rintro ⟨_, _, h3⟩
  have hl := layS_len g s h
  rw [List.getElem?_append_right (by simp; omega), List.getElem?_append_left (by simp; omega), List.getElem?_take, if_pos h0, lay_first, List.getElem?_drop] at h3
  have e : cut + (383 - ((layS g s).take cut).length) = 383 := by simp; omega
  rw [e] at h3
  exact hg (by rw [List.getD, h3]; rfl)
theorem turns_not (a : List UInt8) (i : Nat) (c : UInt8) (ha : Good a) (hi : i < 384) (hc : a[i]? ≠ some c) : openS (a.set i c) = ([], false) := by
  apply open_not
  rintro ⟨g1, g2, g3⟩
  obtain ⟨a1, a2, a3⟩ := ha
  by_cases h0 : i = 0
  · subst h0
    rw [List.getElem?_set_ne (by omega), List.getElem?_set_self (by omega), a3] at g3
    exact hc g3
  · by_cases h1 : i = 383
    · subst h1
      rw [List.getElem?_set_self (by omega), List.getElem?_set_ne (by omega), ← a3] at g3
      exact hc g3.symm
    · by_cases h2 : i < 379
      · rw [List.drop_set_of_lt h2, a2, List.take_set] at g2
        have := addS_set (a.take 379) i (by simp; omega) c (sumS_inj _ _ g2.symm)
        apply hc
        rw [this, List.getElem_take, List.getElem?_eq_getElem (by omega)]
      · have e : (a.set i c).take 379 = a.take 379 := by
          rw [List.take_set, List.set_eq_of_length_le (by simp; omega)]
        rw [e, ← a2] at g2
        have g4 := congrArg (fun x : List UInt8 => x[i - 379]?) g2
        simp only [List.getElem?_take, List.getElem?_drop] at g4
        rw [if_pos (by omega), if_pos (by omega), show 379 + (i - 379) = i by omega, List.getElem?_set_self (by omega)] at g4
        exact hc g4.symm
end Go.Proofs.YtneacphibklbgaaDoor
/-
  Plain words on headers: their numbers, their bytes, the table of places, as lists.
-/
namespace Go.Proofs.YtneacphibklbgaaDoor
open Go.RowKit

/-- a header's numbers -/
structure Hd where
  kind : Int
  frm : Int
  oper : Int
  view : Int
  opn : Int
  commit : Int
  client : Int
  session : Int
  request : Int
  a : Int
  b : Int
  parent : Nat
deriving DecidableEq
def Hd.cells (h : Hd) : Array Value := #[.int .i64 h.kind, .int .i64 h.frm, .int .i64 h.oper, .int .i64 h.view, .int .i64 h.opn, .int .i64 h.commit, .int .i64 h.client, .int .i64 h.session, .int .i64 h.request, .int .i64 h.a, .int .i64 h.b, .int .u64 (h.parent : Int)]
def Hd.val (h : Hd) : Value := .agg h.cells
def In64 (x : Int) : Prop := -9223372036854775808 ≤ x ∧ x ≤ 9223372036854775807
/-- a header of the machine's -/
def Hd.fits (h : Hd) : Prop := (In64 h.kind ∧ In64 h.frm ∧ In64 h.oper ∧ In64 h.view ∧ In64 h.opn ∧ In64 h.commit) ∧ (In64 h.client ∧ In64 h.session ∧ In64 h.request ∧ In64 h.a ∧ In64 h.b) ∧ h.parent < 18446744073709551616
/-- an int's bits as a number -/
def un (x : Int) : Nat := (IntKind.u64.wrap x).toNat
theorem un_wrap (x : Int) : IntKind.u64.wrap x = ((un x : Nat) : Int) := by
  unfold un
  have : 0 ≤ IntKind.u64.wrap x := by rw [IntKind.wrap_u64]; omega
  omega
theorem un_eq (x : Int) : ((un x : Nat) : Int) = x % 18446744073709551616 := by rw [← un_wrap, IntKind.wrap_u64]
theorem un_lt (x : Int) : un x < 18446744073709551616 := by have := un_eq x; omega
def Hd.nums (h : Hd) : List Nat := [0, un h.kind, un h.frm, un h.oper, 0, 0, h.parent, un h.view, un h.opn, un h.commit, un h.client, un h.session, un h.request, un h.a, un h.b]
theorem nums_len (h : Hd) : h.nums.length = 15 := rfl
def av (l : List Nat) : List Value := l.map fun (n : Nat) => .int .u64 (n : Int)
theorem av_get (l : List Nat) (k : Nat) (h : k < l.length) : (av l)[k]? = some (.int .u64 ((l[k] : Nat) : Int)) := by simp [av, h]
theorem av_set (l : List Nat) (k n : Nat) : (av l).set k (.int .u64 (n : Int)) = av (l.set k n) := by simp [av, List.map_set]
theorem av_one (l : List Nat) : ∀ u ∈ av l, u.oneCell' = true := by
  intro u hu
  simp only [av, List.mem_map] at hu
  obtain ⟨b, _, rfl⟩ := hu
  rfl
/-- the table: bytes and the greatest number of each place -/
def sizes : List Nat := [4, 1, 1, 1, 1, 4, 8, 8, 8, 8, 8, 8, 8, 8, 8]
def mosts : List Nat := [4294967295, 255, 255, 255, 0, 4294967295, 18446744073709551615, 72057594037927935, 72057594037927935, 72057594037927935, 72057594037927935, 72057594037927935, 72057594037927935, 72057594037927935, 72057594037927935]
def fcells : List Value := [.int .i64 4, .int .u64 4294967295, .int .i64 1, .int .u64 255, .int .i64 1, .int .u64 255, .int .i64 1, .int .u64 255, .int .i64 1, .int .u64 0, .int .i64 4, .int .u64 4294967295, .int .i64 8, .int .u64 18446744073709551615, .int .i64 8, .int .u64 72057594037927935, .int .i64 8, .int .u64 72057594037927935, .int .i64 8, .int .u64 72057594037927935, .int .i64 8, .int .u64 72057594037927935, .int .i64 8, .int .u64 72057594037927935, .int .i64 8, .int .u64 72057594037927935, .int .i64 8, .int .u64 72057594037927935, .int .i64 8, .int .u64 72057594037927935]
def sz (k : Nat) : Nat := sizes.getD k 0
def mo (k : Nat) : Nat := mosts.getD k 0
theorem sz_lo : ∀ k, k < 15 → 1 ≤ sz k ∧ sz k ≤ 8 := by decide
theorem mo_lt : ∀ k, k < 15 → mo k < 2 ^ (8 * sz k) := by decide
theorem fcell_sz : ∀ k, k < 15 → fcells[k * 2]? = some (.int .i64 (sz k : Nat)) := by
  intro k hk
  match k, hk with
  | 0, _ | 1, _ | 2, _ | 3, _ | 4, _ | 5, _ | 6, _ | 7, _ | 8, _ | 9, _ | 10, _ | 11, _ | 12, _ | 13, _ | 14, _ => rfl
theorem fcell_mo : ∀ k, k < 15 → fcells[k * 2 + 1]? = some (.int .u64 (mo k : Nat)) := by
  intro k hk
  match k, hk with
  | 0, _ | 1, _ | 2, _ | 3, _ | 4, _ | 5, _ | 6, _ | 7, _ | 8, _ | 9, _ | 10, _ | 11, _ | 12, _ | 13, _ | 14, _ => rfl
/-- the table lies where its initialiser laid it -/
def Fd (w : World) : Prop := 1 ≤ w.heap.size ∧ Rd w 1 (some ⟨0, 0, none⟩) fcells
theorem Fd.below {w w' : World} {B : Nat} (h : Fd w) (hb : Below B w w') (hB : 1 ≤ B) : Fd w' :=
  ⟨Nat.le_trans h.1 hb.size, h.2.below hb hB⟩
theorem Fd.size {w : World} {k : Nat} (h : Fd w) (hk : k < 15) : w.cell? ⟨0, k * 2, none⟩ = some (.int .i64 (sz k : Nat)) := by
  obtain ⟨g, o, e, _, hc⟩ := h.2 (by simp [fcells])
  cases e
  simpa using hc _ _ (fcell_sz k hk)
theorem Fd.most {w : World} {k : Nat} (h : Fd w) (hk : k < 15) : w.cell? ⟨0, k * 2 + 1, none⟩ = some (.int .u64 (mo k : Nat)) := by
  obtain ⟨g, o, e, _, hc⟩ := h.2 (by simp [fcells])
  cases e
  simpa using hc _ _ (fcell_mo k hk)
/-- do the numbers fit? -/
def Fits (l : List Nat) : Prop := l.length = 15 ∧ ∀ k (h : k < l.length), l[k] ≤ mo k
instance (l : List Nat) : Decidable (Fits l) := by unfold Fits; infer_instance
/-- the bytes of the first k numbers -/
def fl (l : List Nat) : Nat → List UInt8
  | 0 => []
  | k + 1 => fl l k ++ le (l.getD k 0) (sz k)
def off : Nat → Nat
  | 0 => 0
  | k + 1 => off k + sz k
theorem fl_len (l : List Nat) : ∀ k, (fl l k).length = off k
  | 0 => rfl
  | k + 1 => by simp [fl, off, fl_len l k, le_len]
theorem off_le : ∀ k, k ≤ 15 → off k ≤ 84 := by decide
theorem off_15 : off 15 = 84 := by decide
/-- the bytes behind the sum -/
def restS (l : List Nat) : List UInt8 := fl l 15 ++ List.replicate 40 0
theorem restS_len (l : List Nat) : (restS l).length = 124 := by simp [restS, fl_len, off_15]
/-- a header's bytes -/
def headB (l : List Nat) : List UInt8 := sumS (restS l) ++ restS l
theorem headB_len (l : List Nat) : (headB l).length = 128 := by simp [headB, sumS_len, restS_len]
/-- the numbers with the body's -/
def full (h : Hd) (body : List UInt8) : List Nat := (h.nums.set 0 (addS 0#32 body).toNat).set 5 body.length
theorem full_len (h : Hd) (body : List UInt8) : (full h body).length = 15 := by simp [full, nums_len]
/-- what Pack answers -/
def packS (h : Hd) (body : List UInt8) : List UInt8 × Int :=
  if ¬ Fits h.nums then ([], 4) else if 3968 < body.length then ([], 5) else (headB (full h body) ++ body, 0)
/-- the k-th number of a header's bytes -/
def tk (s : List UInt8) (k : Nat) : Nat := leV ((s.drop (4 + off k)).take (sz k))
def takeN (s : List UInt8) : List Nat := (List.range 15).map (tk s)
/-- a number's bits as an int -/
def sg (n : Nat) : Int := wrap64 (n : Int)
def hdOf (l : List Nat) : Hd :=
  { kind := sg (l.getD 1 0), frm := sg (l.getD 2 0), oper := sg (l.getD 3 0), view := sg (l.getD 7 0), opn := sg (l.getD 8 0), commit := sg (l.getD 9 0), client := sg (l.getD 10 0), session := sg (l.getD 11 0),
    request := sg (l.getD 12 0), a := sg (l.getD 13 0), b := sg (l.getD 14 0), parent := l.getD 6 0 }
def hd0 : Hd := ⟨0, 0, 0, 0, 0, 0, 0, 0, 0, 0, 0, 0⟩
/-- what Unpack answers -/
def unpackS (s : List UInt8) : Hd × List UInt8 × Int :=
  if s.length < 128 then (hd0, [], 4)
  else if packS (hdOf (takeN (s.take 128))) (s.drop 128) = (s, 0) then (hdOf (takeN (s.take 128)), s.drop 128, 0) else (hd0, [], 4)
end Go.Proofs.YtneacphibklbgaaDoor
/-
  The walks of package head's numbers, header.
-/
namespace Go.Proofs.YtneacphibklbgaaDoor
open Go.RowKit
set_option maxRecDepth 10000

/-- a value, and what was there is as it was -/
def VE (w : World) (v : Value) (e : Ending) (w' : World) : Prop := e = .returned v ∧ Below w.heap.size w w'
theorem alloc2_new (w : World) (o1 o2 : Obj) : ((w.alloc o1).alloc o2).heap[w.heap.size + 1]? = some o2 := by
  have := heap_alloc_new (w.alloc o1) o2
  simpa using this
set_option maxHeartbeats 1000000 in
theorem numbers_any (h : Hd) (w : World) : Calls Tryd.prog 89 #[h.val] w (VE w (.agg (av h.nums).toArray)) := by
  obtain ⟨kind, frm, oper, view, opn, commit, client, session, request, a, b, parent⟩ := h
  show Calls Tryd.prog 89 #[.agg #[.int .i64 kind, .int .i64 frm, .int .i64 oper, .int .i64 view, .int .i64 opn, .int .i64 commit, .int .i64 client, .int .i64 session, .int .i64 request, .int .i64 a, .int .i64 b, .int .u64 (parent : Int)]] w _
  go_enter Tryd.func89, Tryd.ntmps89
  go_wp2_with fail
  have e : (av (Hd.nums ⟨kind, frm, oper, view, opn, commit, client, session, request, a, b, parent⟩)).toArray = #[.int .u64 0, .int .u64 (IntKind.u64.wrap kind), .int .u64 (IntKind.u64.wrap frm), .int .u64 (IntKind.u64.wrap oper), .int .u64 0, .int .u64 0, .int .u64 (parent : Int), .int .u64 (IntKind.u64.wrap view),
      .int .u64 (IntKind.u64.wrap opn), .int .u64 (IntKind.u64.wrap commit), .int .u64 (IntKind.u64.wrap client), .int .u64 (IntKind.u64.wrap session), .int .u64 (IntKind.u64.wrap request), .int .u64 (IntKind.u64.wrap a), .int .u64 (IntKind.u64.wrap b)] := by
    simp [av, Hd.nums, un_wrap]
  refine bodyPost_ret (v := .agg (av (Hd.nums ⟨kind, frm, oper, view, opn, commit, client, session, request, a, b, parent⟩)).toArray)
    (results_cell_row rfl _ _ (w.heap.size + 1) 138 (av (Hd.nums ⟨kind, frm, oper, view, opn, commit, client, session, request, a, b, parent⟩)).toArray (0, 0) _ rfl ?_ Tryd.underlying138 rfl (by kernel_rfl)) rfl ⟨rfl, ?_⟩
  · rw [e]
    exact alloc2_new _ _ _
  · exact ((Below.refl _ _).alloc (Nat.le_refl _) _).alloc (by simp) _
set_option maxHeartbeats 1000000 in
theorem header_any (l : List Nat) (hl : l.length = 15) (w : World) : Calls Tryd.prog 96 #[.agg (av l).toArray] w (VE w (hdOf l).val) := by
  match l, hl with
  | [n0, n1, n2, n3, n4, n5, n6, n7, n8, n9, n10, n11, n12, n13, n14], _ =>
    show Calls Tryd.prog 96 #[.agg #[.int .u64 (n0 : Int), .int .u64 (n1 : Int), .int .u64 (n2 : Int), .int .u64 (n3 : Int), .int .u64 (n4 : Int), .int .u64 (n5 : Int), .int .u64 (n6 : Int), .int .u64 (n7 : Int), .int .u64 (n8 : Int), .int .u64 (n9 : Int), .int .u64 (n10 : Int), .int .u64 (n11 : Int), .int .u64 (n12 : Int), .int .u64 (n13 : Int), .int .u64 (n14 : Int)]] w (VE w (.agg #[.int .i64 (wrap64 (n1 : Int)), .int .i64 (wrap64 (n2 : Int)), .int .i64 (wrap64 (n3 : Int)), .int .i64 (wrap64 (n7 : Int)), .int .i64 (wrap64 (n8 : Int)), .int .i64 (wrap64 (n9 : Int)), .int .i64 (wrap64 (n10 : Int)), .int .i64 (wrap64 (n11 : Int)), .int .i64 (wrap64 (n12 : Int)), .int .i64 (wrap64 (n13 : Int)), .int .i64 (wrap64 (n14 : Int)), .int .u64 (n6 : Int)]))
    go_enter Tryd.func96, Tryd.ntmps96
    go_wp2_with fail
    refine bodyPost_ret (v := .agg #[.int .i64 (wrap64 (n1 : Int)), .int .i64 (wrap64 (n2 : Int)), .int .i64 (wrap64 (n3 : Int)), .int .i64 (wrap64 (n7 : Int)), .int .i64 (wrap64 (n8 : Int)), .int .i64 (wrap64 (n9 : Int)), .int .i64 (wrap64 (n10 : Int)), .int .i64 (wrap64 (n11 : Int)), .int .i64 (wrap64 (n12 : Int)), .int .i64 (wrap64 (n13 : Int)), .int .i64 (wrap64 (n14 : Int)), .int .u64 (n6 : Int)])
      (results_cell_row rfl _ _ (w.heap.size + 1) 119 _ (0, 0) _ rfl (alloc2_new _ _ _) Tryd.underlying119 rfl (by kernel_rfl)) rfl ⟨rfl, ((Below.refl _ _).alloc (Nat.le_refl _) _).alloc (by simp) _⟩
end Go.Proofs.YtneacphibklbgaaDoor
/-
  The walk of package head's Right.
-/
namespace Go.Proofs.YtneacphibklbgaaDoor
open Go.RowKit
set_option maxRecDepth 10000

theorem right_no (l : List Nat) (k : Nat) (hk : k < l.length) (h : mo k < l[k]) : ¬ Fits l := fun hf => by
  have := hf.2 k hk
  omega
set_option maxHeartbeats 1000000 in
theorem right_any (h : Hd) (w : World) (hf : Fd w) : Calls Tryd.prog 88 #[h.val] w (VE w (.bool (decide (Fits h.nums)))) := by
  have hl := nums_len h
  have HN := hid (fun W => numbers_any h W)
  have HF := hid hf
  clear hf
  obtain ⟨kind, frm, oper, view, opn, commit, client, session, request, a, b, parent⟩ := h
  have HN2 : Hid (∀ W : World, Calls Tryd.prog 89 #[.agg #[.int .i64 kind, .int .i64 frm, .int .i64 oper, .int .i64 view, .int .i64 opn, .int .i64 commit, .int .i64 client, .int .i64 session, .int .i64 request, .int .i64 a, .int .i64 b, .int .u64 (parent : Int)]] W (VE W (.agg (av (Hd.nums ⟨kind, frm, oper, view, opn, commit, client, session, request, a, b, parent⟩)).toArray))) := hid HN.out
  show Calls Tryd.prog 88 #[.agg #[.int .i64 kind, .int .i64 frm, .int .i64 oper, .int .i64 view, .int .i64 opn, .int .i64 commit, .int .i64 client, .int .i64 session, .int .i64 request, .int .i64 a, .int .i64 b, .int .u64 (parent : Int)]] w _
  generalize Hd.nums ⟨kind, frm, oper, view, opn, commit, client, session, request, a, b, parent⟩ = L at *
  clear HN
  have HL := hid hl
  clear hl
  go_enter Tryd.func88, Tryd.ntmps88
  go_wp2_with (go_at_call 89; refine (HN2.out _).mono ?_; rintro e w1 ⟨rfl, hb1⟩)
  have hb : Below w.heap.size w w1 := ((Below.refl _ _).alloc (Nat.le_refl _) _).trans (hb1.mono (by simp))
  have HF1 := hid (HF.out.below hb HF.out.1)
  have HB := hid hb
  clear hb hb1
  go_loop [7] (fun i => ∃ k : Nat, k ≤ 15 ∧ i = .int .i64 k ∧ Hid (∀ j (hj : j < L.length), j < k → L[j] ≤ mo j)) (fun i => 15 - (intOf i).toNat)
  case atStart => exact ⟨0, by omega, rfl, hid (fun j _ hj => by omega)⟩
  case round =>
    obtain ⟨k, hk, rfl, hpast⟩ := hrel
    by_cases hlt : k < 15
    · have hkl : k < L.length := by rw [HL.out]; exact hlt
      have hix := run_index_arr (P := Tryd.prog) w1 138 26 15 (av L).toArray .i64 k _ .u64 Tryd.underlying138 Tryd.underlying26 (by kernel_rfl) hlt (by simpa using av_get L k hkl)
      have hc := HF1.out.most hlt
      generalize hx : L[k] = x at hix
      generalize hm : mo k = m at hc
      have HX := hid hx
      have HM := hid hm
      clear hx hm
      by_cases hle : x ≤ m
      · go_wp2_with fail
        refine ⟨⟨k + 1, by omega, by go_num, hid (fun j hj hjk => ?_)⟩, by simp [intOf]; omega⟩
        by_cases e : j = k
        · subst e
          rw [HX.out, HM.out]
          exact hle
        · exact hpast.out j hj (by omega)
      · go_wp2_with fail
        go_ret
        have hno : decide (Fits L) = false := decide_eq_false (right_no L k hkl (by rw [HX.out, HM.out]; omega))
        rw [hno]
        exact ⟨rfl, HB.out⟩
    · obtain rfl : k = 15 := by omega
      go_wp2_with fail
      go_ret
      have hyes : decide (Fits L) = true := decide_eq_true ⟨HL.out, fun j hj => hpast.out j hj (by rw [HL.out] at hj; exact hj)⟩
      rw [hyes]
      exact ⟨rfl, HB.out⟩
end Go.Proofs.YtneacphibklbgaaDoor
