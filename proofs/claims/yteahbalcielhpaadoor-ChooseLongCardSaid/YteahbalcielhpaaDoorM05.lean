/-
  The walks of package crc's inner functions: a step, the table, a chain's step.
-/
import Derived.Test.YteahbalcielhpaaDoorRows
import Derived.Test.YteahbalcielhpaaDoorM01
import Derived.Test.YteahbalcielhpaaDoorM04
import Derived.Test.YteahbalcielhpaaDoorM03
namespace Go.Proofs.YteahbalcielhpaaDoor
open Go.RowKit
set_option maxRecDepth 10000

theorem ret_int {k : IntKind} {a b : Int} (h : a = b) : Ending.returned (.int k a) = .returned (.int k b) := by rw [h]
theorem rs_calls (x : BitVec 32) (w : World) :
    Calls Tryd.prog 71 #[.int .u32 (x.toNat : Int)] w fun e w' => e = .returned (.int .u32 ((rs x).toNat : Int)) ∧ w = w' := by
  have h1 : x.toNat < 4294967296 := x.isLt
  have HC := hid (rs_code x)
  go_enter Tryd.func71, Tryd.ntmps71
  go_wp2
  go_ret
  exact ⟨ret_int HC.out, rfl⟩
/-- the table's first k entries; the others are none -/
def tab (k : Nat) : List Value := (List.range k).map (fun i => Value.int .u32 ((rsn 8 (BitVec.ofNat 32 i)).toNat : Int)) ++ List.replicate (256 - k) (.int .u32 0)
theorem tab_len (k : Nat) (h : k ≤ 256) : (tab k).length = 256 := by simp [tab]; omega
theorem tab_zero : tab 0 = List.replicate 256 (.int .u32 0) := by simp only [tab, List.range_zero, List.map_nil, List.nil_append, Nat.sub_zero]
theorem tab_set (k : Nat) (h : k < 256) : (tab k).set k (.int .u32 ((rsn 8 (BitVec.ofNat 32 k)).toNat : Int)) = tab (k + 1) := by
  apply List.ext_getElem?
  intro j
  rw [List.getElem?_set]
  by_cases hj : k = j
  · subst hj
    rw [if_pos rfl, if_pos (by rw [tab_len k (by omega)]; exact h), tab, List.getElem?_append_left (by simp)]
    simp
  · rw [if_neg hj]
    by_cases hlt : j < k
    · rw [tab, tab, List.getElem?_append_left (by simpa using hlt), List.getElem?_append_left (by simp; omega)]
      simp [List.getElem?_range hlt, List.getElem?_range (show j < k + 1 by omega)]
    · rw [tab, tab, List.getElem?_append_right (by simp; omega), List.getElem?_append_right (by simp; omega)]
      simp [List.getElem?_replicate]
      by_cases h2 : j < 256
      · rw [if_pos (by omega), if_pos (by omega)]
      · rw [if_neg (by omega), if_neg (by omega)]
theorem tab_get (i : Nat) (h : i < 256) : (tab 256)[i]? = some (.int .u32 ((rsn 8 (BitVec.ofNat 32 i)).toNat : Int)) := by
  rw [tab, List.getElem?_append_left (by simpa using h)]
  simp [List.getElem?_range h]
theorem tab_one : ∀ u ∈ tab 256, u.oneCell' = true := by
  intro u hu
  simp only [tab, List.mem_append, List.mem_map, List.mem_replicate] at hu
  rcases hu with ⟨i, _, rfl⟩ | ⟨_, rfl⟩ <;> rfl
def z256 : Array Value := (List.replicate 256 (.int .u32 0)).toArray
theorem zero256 (w : World) : (zeroValue 111).run Tryd.prog w = .ok (.agg z256) w := by kernel_rfl
theorem z256_list : z256.toList = tab 0 := by rw [tab_zero]; rfl
set_option maxRecDepth 100000 in
set_option maxHeartbeats 400000 in
theorem table_calls (w : World) :
    Calls Tryd.prog 66 #[] w fun e w' => e = .returned (.agg (tab 256).toArray) ∧ Below w.heap.size w w' := by
  have hz := zero256
  go_enter Tryd.func66, Tryd.ntmps66
  go_wp2_with fail
  go_loopw [4] (fun i wr => ∃ k : Nat, k ≤ 256 ∧ i = .int .i64 k ∧ Row wr w.heap.size 111 (tab 0) ∧ Row wr (w.heap.size + 1) 111 (tab k) ∧ Below w.heap.size w wr) (fun i _ => 256 - (intOf i).toNat)
  case atStart =>
    have h1 := Row.new w 111 z256
    have h2 := Row.new (w.alloc (.cells z256 111)) 111 z256
    rw [z256_list] at h1 h2
    simp only [World.alloc, Array.size_push] at h2
    exact ⟨0, by omega, rfl, h1.alloc _, h2, ((Below.refl _ _).alloc (Nat.le_refl _) _).alloc (by simp) _⟩
  case round =>
    obtain ⟨k, hk, rfl, hr0, hr1, hbe⟩ := hrel
    by_cases hlt : k < 256
    · obtain ⟨u, hu⟩ : ∃ u, (tab k)[k]? = some u := ⟨_, List.getElem?_eq_getElem (by rw [tab_len k hk]; exact hlt)⟩
      have hc := (hr1.cell k).trans hu
      have hf := hr1.frozen k
      have hst := hr1.set_ k (.int .u32 ((rsn 8 (BitVec.ofNat 32 k)).toNat : Int))
      have hst0 := hr0.far (p := ⟨w.heap.size + 1, k, none⟩) (by simp) (.int .u32 ((rsn 8 (BitVec.ofNat 32 k)).toNat : Int))
      have hb2 := hbe.setCell (p := ⟨w.heap.size + 1, k, none⟩) (by simp) (.int .u32 ((rsn 8 (BitVec.ofNat 32 k)).toNat : Int))
      rw [tab_set k hlt] at hst
      have HS := hid hst
      have HS0 := hid hst0
      have HB := hid hb2
      clear hst hr0 hr1 hst0 hb2 hbe hu
      have hd : decide ((k : Int) < 256) = true := by simp; omega
      go_wp2_with fail
      go_loop [3, 9] (fun r i => ∃ j : Nat, j ≤ 8 ∧ i = .int .i64 j ∧ r = .int .u32 ((rsn j (BitVec.ofNat 32 k)).toNat : Int)) (fun _ i => 8 - (intOf i).toNat)
      case atStart => exact ⟨0, by omega, rfl, by simp [rsn]; omega⟩
      case round =>
        obtain ⟨j, hj, rfl, rfl⟩ := hrel
        by_cases hjl : j < 8
        · go_wp2_with (go_at_call 71; refine (rs_calls _ _).mono ?_; rintro e w' ⟨rfl, rfl⟩)
          go_round
          case rel => exact ⟨j + 1, by omega, by go_num, rfl⟩
          case measure => simp [intOf]; omega
        · obtain rfl : j = 8 := by omega
          go_wp2_with fail
          go_roundw
          case rel => exact ⟨k + 1, by omega, by go_num, HS0.out, HS.out, HB.out⟩
          case measure => simp [intOf]; omega
    · obtain rfl : k = 256 := by omega
      have HT : Hid ((tab 256).toArray.size = 256) := hid (by simpa using tab_len 256 (by omega))
      have HR1 := hid hr1
      have HR0 := hid hr0
      have hb0 := hr0.lt
      clear hr0 hr1
      go_wp2_with (first
        | (refine wpList_load_row rfl 111 (.tmp 1) rfl (w.heap.size + 1) rfl 111 (tab 256).toArray (0, 0) _ HR1.out Tryd.underlying111 rfl (by rw [HT.out]; kernel_rfl) ?_)
        | (refine wpList_store_row rfl 111 (.tmp 0) (.tmp 18) rfl w.heap.size (tab 256).toArray rfl rfl 111 (tab 0).toArray HR0.out (by rw [HT.out]; kernel_rfl) (by rw [HT.out]; simpa using tab_len 0 (by omega)) ?_ ?_))
      · rw [Array.all_eq_true']
        intro u hu
        exact tab_one u (by simpa using hu)
      · have hg := setRow_heap wr w.heap.size _ (tab 256).toArray 111 (0, 0) HR0.out
        exact bodyPost_ret (v := .agg (tab 256).toArray) (results_cell_row rfl _ _ w.heap.size 111 (tab 256).toArray (0, 0) _ rfl hg Tryd.underlying111 rfl (by rw [HT.out]; kernel_rfl)) rfl
          ⟨rfl, hbe.trans (below_grown (grownBy_setRow wr w.heap.size _) (Nat.le_refl _) (by omega))⟩
end Go.Proofs.YteahbalcielhpaaDoor
/-
  The walks of Add and Sum, and of the answers held against them.
-/
namespace Go.Proofs.YteahbalcielhpaaDoor
open Go.RowKit
set_option maxRecDepth 10000

/-- what Add answers -/
def addS (x : BitVec 32) (l : List UInt8) : BitVec 32 := ~~~ byAll (~~~x) l
set_option maxRecDepth 100000 in
set_option maxHeartbeats 400000 in
theorem add_calls (x : BitVec 32) (s : ByteArray) (w : World) (hs : s.size ≤ 1125899906842624) :
    Calls Tryd.prog 59 #[.int .u32 (x.toNat : Int), .string s] w fun e w' => e = .returned (.int .u32 ((addS x (sb s)).toNat : Int)) ∧ Below w.heap.size w w' := by
  have hz := zero256
  have HT : Hid ((tab 256).toArray.size = 256) := hid (by simpa using tab_len 256 (by omega))
  have HZ : Hid (z256.size = 256) := hid (by rfl)
  have hsg : IntKind.u32.signed = false := rfl
  have hmx : IntKind.u32.max = 4294967295 := rfl
  go_enter Tryd.func59, Tryd.ntmps59
  go_wp2_with (first
    | (go_at_call 66; refine (table_calls _).mono ?_; rintro e w1 ⟨rfl, hb1⟩)
    | (refine wpList_store_row rfl 111 (.tmp 5) (.tmp 9) rfl w1.heap.size (tab 256).toArray rfl rfl 111 z256 (heap_alloc_new _ _) (by rw [HT.out]; kernel_rfl) (by rw [HT.out, HZ.out]) ?_ ?_)
    | (with_reducible refine wpl_bytes rfl _ _ _ rfl 5 Tryd.underlying9 Tryd.underlying80 Tryd.underlying5 s rfl ?_; intro g c k w2 HG HC HR HB))

  · rw [Array.all_eq_true']
    intro u hu
    exact tab_one u (by simpa using hu)
  have hb2 : Below w.heap.size w w2 := ((hb1.alloc hb1.size _).trans (below_grown (grownBy_setRow _ w1.heap.size _) (hb1.size) (by simp; have := hb1.size; omega))).trans (HB.mono (by simp [World.setRow]; have := hb1.size; omega))
  have hT : Row w2 w1.heap.size 111 (tab 256) := Row.below (by
    have := setRow_heap (w1.alloc (.cells z256 111)) w1.heap.size _ (tab 256).toArray 111 (0, 0) (heap_alloc_new _ _)
    exact this) HB (by simp [World.setRow])
  have HB2 := hid hb2
  have HT2 := hid hT
  have HS := hid (sb_len s)
  clear hb2 hT HB hb1
  have hn := not_code x
  go_loop [6, 15] (fun r i => ∃ k : Nat, k ≤ s.size ∧ i = .int .i64 k ∧ r = .int .u32 ((byAll (~~~x) ((sb s).take k)).toNat : Int)) (fun _ i => s.size - (intOf i).toNat)
  case atStart => exact ⟨0, by omega, rfl, by rw [hn]; rfl⟩
  case round =>
    obtain ⟨k, hk, rfl, rfl⟩ := hrel
    by_cases hlt : k < s.size
    · have hkl : k < (sb s).length := by rw [HS.out]; exact hlt
      have hc := HR.cell k
      rw [List.getElem?_append_left (by rw [bvs_len]; exact hkl)] at hc
      simp only [bvs, List.getElem?_map, List.getElem?_eq_getElem hkl, Option.map_some, bv] at hc
      have hstep : byAll (~~~x) ((sb s).take (k + 1)) = byStep (byAll (~~~x) ((sb s).take k)) (sb s)[k] := by
        rw [List.take_succ_eq_append_getElem hkl, byAll_app]; rfl
      generalize hb : (sb s)[k] = b at hc hstep
      generalize hx : byAll (~~~x) ((sb s).take k) = r at hstep ⊢
      have h1 : r.toNat < 4294967296 := r.isLt
      have h2 : b.toNat < 256 := UInt8.toNat_lt b
      have hix := idx_code r b
      have htc := tab_code r b
      generalize hm : (r.setWidth 8 ^^^ b.toBitVec).toNat = m at hix htc
      have hm2 : m < 256 := by rw [← hm]; exact BitVec.isLt _
      have hcell := (HT2.out.cell m).trans (tab_get m hm2)
      have HST := hid hstep
      have HTC := hid htc
      clear hb hx hstep htc hm
      go_wp2_with fail
      go_round
      case rel => exact ⟨k + 1, by omega, by go_num, by rw [HST.out, HTC.out]⟩
      case measure => simp [intOf]; omega
    · obtain rfl : k = s.size := by omega
      have hxt : byAll (~~~x) ((sb s).take s.size) = byAll (~~~x) (sb s) := by rw [List.take_of_length_le (by rw [HS.out]; exact Nat.le_refl _)]
      have hn2 := not_code (byAll (~~~x) (sb s))
      rw [hxt]
      have HN := hid hn2
      clear hn2 hxt
      go_wp2_with fail
      go_ret
      exact ⟨ret_int HN.out, HB2.out⟩
end Go.Proofs.YteahbalcielhpaaDoor
/-
  The walks of Sum, and of the document's Add and Sum.
-/
namespace Go.Proofs.YteahbalcielhpaaDoor
open Go.RowKit
set_option maxRecDepth 10000

theorem u32_zero : ((0#32 : BitVec 32).toNat : Int) = 0 := rfl
set_option maxHeartbeats 400000 in
theorem sum_calls (s : ByteArray) (w : World) (hs : s.size ≤ 1125899906842624) :
    Calls Tryd.prog 51 #[.string s] w fun e w' => e = .returned (.int .u32 ((addS 0#32 (sb s)).toNat : Int)) ∧ Below w.heap.size w w' := by
  have P := fun W => add_calls 0#32 s W hs
  simp only [u32_zero] at P
  have H := hid P
  clear P
  go_enter Tryd.func51, Tryd.ntmps51
  go_wp2_with (go_at_call 59; refine (H.out _).mono ?_; rintro e w1 ⟨rfl, hb1⟩)
  go_ret
  exact ⟨rfl, hb1⟩
end Go.Proofs.YteahbalcielhpaaDoor
/-
  The walks of package seal's lay, and of the document's With: the one sealed sector of a byte and a text.
-/
namespace Go.Proofs.YteahbalcielhpaaDoor
open Go.RowKit
set_option maxRecDepth 10000

/-- a text -/
def SE (w : World) (r : List UInt8) (e : Ending) (w' : World) : Prop := e = .returned (.string ⟨r.toArray⟩) ∧ Below w.heap.size w w'
/-- the bytes ahead of the sum -/
def headS (g : UInt8) (s : List UInt8) : List UInt8 := [g] ++ le s.length 2 ++ s ++ List.replicate (376 - s.length) 0
/-- the sum's bytes -/
def sumS (l : List UInt8) : List UInt8 := le (addS 0#32 l).toNat 4
/-- the sealed sector -/
def layS (g : UInt8) (s : List UInt8) : List UInt8 := headS g s ++ sumS (headS g s) ++ [g]
theorem headS_len (g : UInt8) (s : List UInt8) (h : s.length ≤ 376) : (headS g s).length = 379 := by simp [headS, le_len]; omega
theorem sumS_len (l : List UInt8) : (sumS l).length = 4 := le_len _ _
theorem own_base {w : World} {B B' e size n : Nat} {v : Value} {xs : List Value} (h : w.ownsRow B e size v n xs) (hB : B' ≤ B) : w.ownsRow B' e size v n xs := by
  obtain ⟨h1, h2⟩ := h
  refine ⟨h1, ?_⟩
  rcases h2 with h2 | ⟨g, cap, cur, e1, a, b⟩
  · exact .inl h2
  · exact .inr ⟨g, cap, cur, e1, by omega, b⟩
theorem bvs_zero (n : Nat) : List.replicate n (Value.int .u8 0) = bvs (List.replicate n 0) := by simp [bvs, bv]
/-- PutText behind one byte -/
theorem pt_one (g : UInt8) (s : ByteArray) (hs : s.size ≤ 376) (W : World) : Calls Tryd.prog 79 #[.slice (some ⟨W.heap.size, 0, none⟩) 1 1, .string s] (W.alloc (.cells #[.int .u8 (g.toNat : Int)] 5))
    fun e w' => ∃ A c, e = .returned (.tuple #[.slice A (s.size + 3) c, .int .i64 0]) ∧ w'.ownsRow W.heap.size 5 1 (.slice A (s.size + 3) c) (s.size + 3) (bvs ([g] ++ le s.size 2 ++ sb s)) ∧ Below W.heap.size W w' := by
  have h := pt_ok (some ⟨W.heap.size, 0, none⟩) [g] 1 1 (W.heap.size + 1) s (W.alloc (.cells #[.int .u8 (g.toNat : Int)] 5)) (Row.rd (cs := bvs [g]) (Row.new W 5 _) (by omega)) rfl (by simp) (by omega) (by omega)
  refine h.mono fun e w' hh => ?_
  obtain ⟨A, c, e1, e2, e3⟩ := hh.len (n := s.size + 3) (by simp [le_len, sb_len]; omega)
  exact ⟨A, c, e1, own_base e2 (by simp), ((Below.refl _ _).alloc (Nat.le_refl _) _).trans (e3.mono (by simp))⟩
/-- Put of a sum -/
theorem put_sum (A : Option Addr) (bs : List UInt8) (c B : Nat) (x : BitVec 32) (W : World) (hr : Rd W B A (bvs bs)) (hl : bs.length = 379) (hB : B ≤ W.heap.size) :
    Calls Tryd.prog 60 #[.slice A 379 c, .int .u64 (x.toNat : Int), .int .i64 4] W
    fun e w' => ∃ A c, e = .returned (.tuple #[.slice A 383 c, .int .i64 0]) ∧ w'.ownsRow W.heap.size 5 1 (.slice A 383 c) 383 (bvs (bs ++ le x.toNat 4)) ∧ Below W.heap.size W w' := by
  have h := put_any A bs 379 c x.toNat B 4 W hr hl.symm hB (by omega)
  have e : putS bs x.toNat 4 = (bs ++ le x.toNat 4, 0) := by
    unfold putS
    rw [if_pos ⟨by omega, by omega, Nat.div_eq_of_lt x.isLt⟩]
    rfl
  rw [e] at h
  exact h.mono fun e w' hh => hh.len (by simp [le_len, hl])
theorem sum_of (b : List UInt8) (hb : b.length = 379) (W : World) : Calls Tryd.prog 51 #[.string ⟨b.toArray⟩] W fun e w' => e = .returned (.int .u32 ((addS 0#32 b).toNat : Int)) ∧ Below W.heap.size W w' := by
  have h := sum_calls ⟨b.toArray⟩ W (by rw [← sb_len, sb_mk]; omega)
  rw [sb_mk] at h
  exact h
set_option maxHeartbeats 1000000 in
theorem lay_calls (g : UInt8) (s : ByteArray) (hs : s.size ≤ 376) (w : World) :
    Calls Tryd.prog 77 #[.int .u8 (g.toNat : Int), .string s] w (SE w (layS g (sb s))) := by
  obtain ⟨i0, hi, hz0, hz1, hz2⟩ := info_parts u8info
  have P1 := hid (pt_one g s hs w)
  have hsl := sb_len s
  have hb := headS_len g (sb s) (by omega)
  have hhead : bvs ([g] ++ le s.size 2 ++ sb s) ++ List.replicate (376 - s.size) (.int .u8 0) = bvs (headS g (sb s)) := by
    rw [bvs_zero, ← bvs_app, headS, hsl]
  have P2 := hid (sum_of (headS g (sb s)) hb)
  have hx : (addS 0#32 (headS g (sb s))).toNat < 4294967296 := (addS 0#32 (headS g (sb s))).isLt
  have P3 := hid (fun A c B W hr hB => put_sum A (headS g (sb s)) c B (addS 0#32 (headS g (sb s))) W hr hb hB)
  have hfin : layS g (sb s) = headS g (sb s) ++ le (addS 0#32 (headS g (sb s))).toNat 4 ++ [g] := rfl
  have hlen : 383 + 1 = (headS g (sb s) ++ le (addS 0#32 (headS g (sb s))).toNat 4 ++ [g]).length := by simp [hb, le_len]
  generalize headS g (sb s) = H at hb hhead P2 hx P3 hfin hlen
  generalize addS 0#32 H = x at P2 hx P3 hfin hlen
  have HH := hid hhead
  have HF := hid hfin
  have HB := hid hb
  have HL := hid hlen
  have HS := hid hs
  have HE : Hid (bvs (H ++ le x.toNat 4) ++ [.int .u8 (g.toNat : Int)] = bvs (layS g (sb s))) := hid (by rw [hfin, bvs_app _ [g]]; rfl)
  clear hhead hfin hb hsl hlen
  go_enter Tryd.func77, Tryd.ntmps77
  have HN : Hid (s.size + 3 + (376 - s.size) = 379) := hid (by have := HS.out; omega)
  go_wp2_with (first
    | (go_at_call 79; refine P1.out.mono ?_; rintro e w1 ⟨A1, c1, rfl, hown1, hb1⟩)
    | (with_reducible refine wpl_append_zeros rfl _ _ 80 3 rfl w.heap.size 5 i0 .i64 Tryd.underlying80 Tryd.underlying3 hi hz0 hz1 hz2 (.slice A1 (s.size + 3) c1) (s.size + 3) _ rfl hown1 _ (376 - s.size) rfl ?_ ?_ ?_ ?_ ?_; intro v2 w2 hown2 hb2 hg2; rw [HH.out, HN.out] at hown2; obtain ⟨A2, c2, rfl, -, -, hrd2⟩ := own_shape hown2)
    | (with_reducible refine wpl_str rfl _ 80 9 rfl 5 Tryd.underlying80 Tryd.underlying5 Tryd.underlying9 A2 379 c2 rfl w2.heap.size H ?_ (hid hrd2) (hid HB.out.symm))
    | (go_at_call 51; refine (P2.out _).mono ?_; rintro e w3 ⟨rfl, hb3⟩)
    | (go_at_call 60; refine (P3.out A2 c2 w2.heap.size _ (hrd2.below hb3 (Nat.le_refl _)) hb3.size).mono ?_; rintro e w4 ⟨A4, c4, rfl, hown4, hb4⟩)
    | (with_reducible refine wpl_append rfl _ _ 80 rfl w3.heap.size 5 i0 _ 1 1 Tryd.underlying80 hi hz0 hz1 hz2 rfl (by omega) (.slice A4 383 c4) 383 _ rfl (hown4.alloc _) (w4.heap.size + 1) (some ⟨w4.heap.size, 0, none⟩) 1 1 [.int .u8 (g.toNat : Int)] rfl ?_ ?_ ?_ ?_ ?_ ?_ ?_; intro v5 w5 hown5 hb5 hg5; rw [HE.out] at hown5; obtain ⟨A5, c5, rfl, -, -, hrd5⟩ := own_shape hown5)
    | (with_reducible refine wpl_str rfl _ 80 9 rfl 5 Tryd.underlying80 Tryd.underlying5 Tryd.underlying9 A5 (383 + 1) c5 rfl w5.heap.size (layS g (sb s)) ?_ (hid hrd5) (hid (by rw [HF.out]; exact HL.out))))
  rotate_left
  · refine hid fun _ => ⟨_, _, rfl, by omega, ?_⟩
    intro j u hu
    match j, hu with
    | 0, hu => simp at hu; subst hu; simp
  · exact hid rfl
  · exact hid (by intro u hu; simp at hu; subst hu; rfl)
  · exact hid (le_maxLen (by omega))
  · exact hid (by omega)
  · exact hid (by have := hb4.size; simp; omega)
  · exact hid (by have := HS.out; omega)
  · exact hid (by omega)
  · exact hid (by have := HS.out; omega)
  · exact hid hb1.size
  have hbe2 := hb1.trans hb2
  go_ret
  refine ⟨rfl, ?_⟩
  have s2 := hbe2.size
  have s3 := hb3.size
  have s4 := hb4.size
  exact ((hbe2.trans (hb3.mono s2)).trans (hb4.mono (by omega))).trans ((Below.refl _ _).alloc (by omega) _ |>.trans (hb5.mono (by omega)))
end Go.Proofs.YteahbalcielhpaaDoor
/-
  The walks of package seal's next and Seal, and of the document's Seal.
-/
namespace Go.Proofs.YteahbalcielhpaaDoor
open Go.RowKit
set_option maxRecDepth 10000

/-- the guard behind the one at the end -/
def nextS (old : List UInt8) : UInt8 := if old.length = 0 then 1 else old.getD (old.length - 1) 0 + 1
/-- what Seal answers -/
def sealS (old s : List UInt8) : List UInt8 × Int := if 376 < s.length then ([], 5) else (layS (nextS old) s, 0)
/-- a text and an error's number -/
def SN (w : World) (r : List UInt8 × Int) (e : Ending) (w' : World) : Prop :=
  e = .returned (.tuple #[.string ⟨r.1.toArray⟩, .int .i64 r.2]) ∧ Below w.heap.size w w'
theorem empty_of {s : ByteArray} (h : s.size = 0) : s = ⟨#[]⟩ := by
  rcases s with ⟨d⟩
  have : d.size = 0 := h
  rw [Array.size_eq_zero_iff.1 this]
theorem full_of {s : ByteArray} (h : ¬ s.size = 0) : s.toList.isEmpty = false := by
  rw [ByteArray.toList_eq]
  cases hl : s.data.toList with
  | nil => exact absurd (show s.size = 0 by rw [← sb_len, sb, hl]; rfl) h
  | cons _ _ => rfl
theorem last_of (s : ByteArray) (h : 0 < s.size) : nextS (sb s) = s[s.size - 1]'(by omega) + 1 := by
  unfold nextS
  rw [if_neg (by rw [sb_len]; omega), sb_len, List.getD, List.getElem?_eq_getElem (by rw [sb_len]; omega)]
  rfl
theorem u8_next (c : UInt8) : ((c.toNat : Int) + 1) % 256 = (((c + 1).toNat : Nat) : Int) := by
  rw [UInt8.toNat_add]
  simp
theorem next_calls (old : ByteArray) (w : World) (hold : old.size ≤ 1125899906842624) :
    Calls Tryd.prog 78 #[.string old] w fun e w' => e = .returned (.int .u8 ((nextS (sb old)).toNat : Int)) ∧ w = w' := by
  by_cases h : old.size = 0
  · obtain rfl := empty_of h
    go_enter Tryd.func78, Tryd.ntmps78
    go_wp2_with fail
    go_ret
    exact ⟨rfl, rfl⟩
  · have hl := last_of old (by omega)
    have hne := full_of h
    have hlt : old.size - 1 < old.size := by omega
    have hu := u8_next (old[old.size - 1]'hlt)
    have h8 := UInt8.toNat_lt (old[old.size - 1]'hlt)
    have HL := hid hl
    have HU := hid hu
    clear hl hu
    go_enter Tryd.func78, Tryd.ntmps78
    go_wp2_with fail
    go_ret
    exact ⟨by rw [HL.out]; exact ret_int HU.out, rfl⟩
set_option maxHeartbeats 400000 in
theorem seal_calls (old s : ByteArray) (w : World) (hold : old.size ≤ 1125899906842624) :
    Calls Tryd.prog 74 #[.string old, .string s] w (SN w (sealS (sb old) (sb s))) := by
  unfold sealS
  rw [sb_len]
  by_cases h : 376 < s.size
  · rw [if_pos h]
    have hI : (376 : Int) < s.size := by omega
    go_enter Tryd.func74, Tryd.ntmps74
    go_wp2_with fail
    go_ret2
    exact ⟨rfl, Below.refl _ _⟩
  · rw [if_neg h]
    have hI : (s.size : Int) ≤ 376 := by omega
    have H1 := hid (next_calls old w hold)
    have H2 := hid (lay_calls (nextS (sb old)) s (by omega) w)
    clear h
    go_enter Tryd.func74, Tryd.ntmps74
    go_wp2_with (first
      | (go_at_call 78; refine H1.out.mono ?_; rintro e w1 ⟨rfl, rfl⟩)
      | (go_at_call 77; refine H2.out.mono ?_; rintro e w2 ⟨rfl, hb2⟩))
    go_ret2
    exact ⟨rfl, hb2⟩
end Go.Proofs.YteahbalcielhpaaDoor
/-
  The walks of package seal's Open and of the document's.
-/
namespace Go.Proofs.YteahbalcielhpaaDoor
open Go.RowKit
set_option maxRecDepth 10000

theorem str_ne {a b : ByteArray} (h : a ≠ b) : (a.toList == b.toList) = false := by
  rw [beq_eq_false_iff_ne, ByteArray.toList_eq, ByteArray.toList_eq]
  intro e
  apply h
  rcases a with ⟨a⟩
  rcases b with ⟨b⟩
  simp only [Array.toList_inj] at e
  rw [e]
end Go.Proofs.YteahbalcielhpaaDoor
/-
  Plain words on headers: their numbers, their bytes, the table of places, as lists.
-/
namespace Go.Proofs.YteahbalcielhpaaDoor
open Go.RowKit

/-- a header's numbers -/
structure Hd where
  kind : Int
  frm : Int
  oper : Int
  view : Int
  opn : Int
  commit : Int
  client : Int
  session : Int
  request : Int
  a : Int
  b : Int
  parent : Nat
deriving DecidableEq
def Hd.cells (h : Hd) : Array Value := #[.int .i64 h.kind, .int .i64 h.frm, .int .i64 h.oper, .int .i64 h.view, .int .i64 h.opn, .int .i64 h.commit, .int .i64 h.client, .int .i64 h.session, .int .i64 h.request, .int .i64 h.a, .int .i64 h.b, .int .u64 (h.parent : Int)]
def Hd.val (h : Hd) : Value := .agg h.cells
def In64 (x : Int) : Prop := -9223372036854775808 ≤ x ∧ x ≤ 9223372036854775807
/-- a header of the machine's -/
def Hd.fits (h : Hd) : Prop := (In64 h.kind ∧ In64 h.frm ∧ In64 h.oper ∧ In64 h.view ∧ In64 h.opn ∧ In64 h.commit) ∧ (In64 h.client ∧ In64 h.session ∧ In64 h.request ∧ In64 h.a ∧ In64 h.b) ∧ h.parent < 18446744073709551616
/-- an int's bits as a number -/
def un (x : Int) : Nat := (IntKind.u64.wrap x).toNat
theorem un_in {x : Int} (h0 : 0 ≤ x) (h1 : x ≤ 18446744073709551615) : un x = x.toNat := by
  unfold un
  rw [IntWalk.u64_in x ⟨h0, by omega⟩]
theorem un_wrap (x : Int) : IntKind.u64.wrap x = ((un x : Nat) : Int) := by
  unfold un
  have : 0 ≤ IntKind.u64.wrap x := by rw [IntKind.wrap_u64]; omega
  omega
theorem un_eq (x : Int) : ((un x : Nat) : Int) = x % 18446744073709551616 := by rw [← un_wrap, IntKind.wrap_u64]
theorem un_lt (x : Int) : un x < 18446744073709551616 := by have := un_eq x; omega
def Hd.nums (h : Hd) : List Nat := [0, un h.kind, un h.frm, un h.oper, 0, 0, h.parent, un h.view, un h.opn, un h.commit, un h.client, un h.session, un h.request, un h.a, un h.b]
theorem nums_len (h : Hd) : h.nums.length = 15 := rfl
def av (l : List Nat) : List Value := l.map fun (n : Nat) => .int .u64 (n : Int)
theorem av_get (l : List Nat) (k : Nat) (h : k < l.length) : (av l)[k]? = some (.int .u64 ((l[k] : Nat) : Int)) := by simp [av, h]
theorem av_set (l : List Nat) (k n : Nat) : (av l).set k (.int .u64 (n : Int)) = av (l.set k n) := by simp [av, List.map_set]
theorem av_one (l : List Nat) : ∀ u ∈ av l, u.oneCell' = true := by
  intro u hu
  simp only [av, List.mem_map] at hu
  obtain ⟨b, _, rfl⟩ := hu
  rfl
/-- the table: bytes and the greatest number of each place -/
def sizes : List Nat := [4, 1, 1, 1, 1, 4, 8, 8, 8, 8, 8, 8, 8, 8, 8]
def mosts : List Nat := [4294967295, 255, 255, 255, 0, 4294967295, 18446744073709551615, 72057594037927935, 72057594037927935, 72057594037927935, 72057594037927935, 72057594037927935, 72057594037927935, 72057594037927935, 72057594037927935]
def fcells : List Value := [.int .i64 4, .int .u64 4294967295, .int .i64 1, .int .u64 255, .int .i64 1, .int .u64 255, .int .i64 1, .int .u64 255, .int .i64 1, .int .u64 0, .int .i64 4, .int .u64 4294967295, .int .i64 8, .int .u64 18446744073709551615, .int .i64 8, .int .u64 72057594037927935, .int .i64 8, .int .u64 72057594037927935, .int .i64 8, .int .u64 72057594037927935, .int .i64 8, .int .u64 72057594037927935, .int .i64 8, .int .u64 72057594037927935, .int .i64 8, .int .u64 72057594037927935, .int .i64 8, .int .u64 72057594037927935, .int .i64 8, .int .u64 72057594037927935]
def sz (k : Nat) : Nat := sizes.getD k 0
def mo (k : Nat) : Nat := mosts.getD k 0
theorem sz_lo : ∀ k, k < 15 → 1 ≤ sz k ∧ sz k ≤ 8 := by decide
theorem mo_lt : ∀ k, k < 15 → mo k < 2 ^ (8 * sz k) := by decide
theorem fcell_sz : ∀ k, k < 15 → fcells[k * 2]? = some (.int .i64 (sz k : Nat)) := by
  intro k hk
  match k, hk with
  | 0, _ | 1, _ | 2, _ | 3, _ | 4, _ | 5, _ | 6, _ | 7, _ | 8, _ | 9, _ | 10, _ | 11, _ | 12, _ | 13, _ | 14, _ => rfl
theorem fcell_mo : ∀ k, k < 15 → fcells[k * 2 + 1]? = some (.int .u64 (mo k : Nat)) := by
  intro k hk
  match k, hk with
  | 0, _ | 1, _ | 2, _ | 3, _ | 4, _ | 5, _ | 6, _ | 7, _ | 8, _ | 9, _ | 10, _ | 11, _ | 12, _ | 13, _ | 14, _ => rfl
/-- the table lies where its initialiser laid it -/
def Fd (w : World) : Prop := 1 + 1 ≤ w.heap.size ∧ Rd w (1 + 1) (some ⟨1, 0, none⟩) fcells
theorem Fd.below {w w' : World} {B : Nat} (h : Fd w) (hb : Below B w w') (hB : 1 + 1 ≤ B) : Fd w' :=
  ⟨Nat.le_trans h.1 hb.size, h.2.below hb hB⟩
theorem Fd.size {w : World} {k : Nat} (h : Fd w) (hk : k < 15) : w.cell? ⟨1, k * 2, none⟩ = some (.int .i64 (sz k : Nat)) := by
  obtain ⟨g, o, e, _, hc⟩ := h.2 (by simp [fcells])
  cases e
  simpa using hc _ _ (fcell_sz k hk)
theorem Fd.most {w : World} {k : Nat} (h : Fd w) (hk : k < 15) : w.cell? ⟨1, k * 2 + 1, none⟩ = some (.int .u64 (mo k : Nat)) := by
  obtain ⟨g, o, e, _, hc⟩ := h.2 (by simp [fcells])
  cases e
  simpa using hc _ _ (fcell_mo k hk)
/-- do the numbers fit? -/
def Fits (l : List Nat) : Prop := l.length = 15 ∧ ∀ k (h : k < l.length), l[k] ≤ mo k
instance (l : List Nat) : Decidable (Fits l) := by unfold Fits; infer_instance
/-- the bytes of the first k numbers -/
def fl (l : List Nat) : Nat → List UInt8
  | 0 => []
  | k + 1 => fl l k ++ le (l.getD k 0) (sz k)
def off : Nat → Nat
  | 0 => 0
  | k + 1 => off k + sz k
theorem fl_len (l : List Nat) : ∀ k, (fl l k).length = off k
  | 0 => rfl
  | k + 1 => by simp [fl, off, fl_len l k, le_len]
theorem off_le : ∀ k, k ≤ 15 → off k ≤ 84 := by decide
theorem off_15 : off 15 = 84 := by decide
/-- the bytes behind the sum -/
def restS (l : List Nat) : List UInt8 := fl l 15 ++ List.replicate 40 0
theorem restS_len (l : List Nat) : (restS l).length = 124 := by simp [restS, fl_len, off_15]
/-- a header's bytes -/
def headB (l : List Nat) : List UInt8 := sumS (restS l) ++ restS l
theorem headB_len (l : List Nat) : (headB l).length = 128 := by simp [headB, sumS_len, restS_len]
/-- the numbers with the body's -/
def full (h : Hd) (body : List UInt8) : List Nat := (h.nums.set 0 (addS 0#32 body).toNat).set 5 body.length
theorem full_len (h : Hd) (body : List UInt8) : (full h body).length = 15 := by simp [full, nums_len]
/-- what Pack answers -/
def packS (h : Hd) (body : List UInt8) : List UInt8 × Int :=
  if ¬ Fits h.nums then ([], 4) else if 3968 < body.length then ([], 5) else (headB (full h body) ++ body, 0)
/-- a number's bits as an int -/
def sg (n : Nat) : Int := wrap64 (n : Int)
def hd0 : Hd := ⟨0, 0, 0, 0, 0, 0, 0, 0, 0, 0, 0, 0⟩
end Go.Proofs.YteahbalcielhpaaDoor
/-
  The walks of package head's numbers, header.
-/
namespace Go.Proofs.YteahbalcielhpaaDoor
open Go.RowKit
set_option maxRecDepth 10000

/-- a value, and what was there is as it was -/
def VE (w : World) (v : Value) (e : Ending) (w' : World) : Prop := e = .returned v ∧ Below w.heap.size w w'
theorem alloc2_new (w : World) (o1 o2 : Obj) : ((w.alloc o1).alloc o2).heap[w.heap.size + 1]? = some o2 := by
  have := heap_alloc_new (w.alloc o1) o2
  simpa using this
set_option maxHeartbeats 1000000 in
theorem numbers_any (h : Hd) (w : World) : Calls Tryd.prog 50 #[h.val] w (VE w (.agg (av h.nums).toArray)) := by
  obtain ⟨kind, frm, oper, view, opn, commit, client, session, request, a, b, parent⟩ := h
  show Calls Tryd.prog 50 #[.agg #[.int .i64 kind, .int .i64 frm, .int .i64 oper, .int .i64 view, .int .i64 opn, .int .i64 commit, .int .i64 client, .int .i64 session, .int .i64 request, .int .i64 a, .int .i64 b, .int .u64 (parent : Int)]] w _
  go_enter Tryd.func50, Tryd.ntmps50
  go_wp2_with fail
  have e : (av (Hd.nums ⟨kind, frm, oper, view, opn, commit, client, session, request, a, b, parent⟩)).toArray = #[.int .u64 0, .int .u64 (IntKind.u64.wrap kind), .int .u64 (IntKind.u64.wrap frm), .int .u64 (IntKind.u64.wrap oper), .int .u64 0, .int .u64 0, .int .u64 (parent : Int), .int .u64 (IntKind.u64.wrap view),
      .int .u64 (IntKind.u64.wrap opn), .int .u64 (IntKind.u64.wrap commit), .int .u64 (IntKind.u64.wrap client), .int .u64 (IntKind.u64.wrap session), .int .u64 (IntKind.u64.wrap request), .int .u64 (IntKind.u64.wrap a), .int .u64 (IntKind.u64.wrap b)] := by
    simp [av, Hd.nums, un_wrap]
  refine bodyPost_ret (v := .agg (av (Hd.nums ⟨kind, frm, oper, view, opn, commit, client, session, request, a, b, parent⟩)).toArray)
    (results_cell_row rfl _ _ (w.heap.size + 1) 92 (av (Hd.nums ⟨kind, frm, oper, view, opn, commit, client, session, request, a, b, parent⟩)).toArray (0, 0) _ rfl ?_ Tryd.underlying92 rfl (by kernel_rfl)) rfl ⟨rfl, ?_⟩
  · rw [e]
    exact alloc2_new _ _ _
  · exact ((Below.refl _ _).alloc (Nat.le_refl _) _).alloc (by simp) _
end Go.Proofs.YteahbalcielhpaaDoor
/-
  The walk of package head's Right.
-/
namespace Go.Proofs.YteahbalcielhpaaDoor
open Go.RowKit
set_option maxRecDepth 10000

theorem right_no (l : List Nat) (k : Nat) (hk : k < l.length) (h : mo k < l[k]) : ¬ Fits l := fun hf => by
  have := hf.2 k hk
  omega
set_option maxHeartbeats 1000000 in
theorem right_any (h : Hd) (w : World) (hf : Fd w) : Calls Tryd.prog 49 #[h.val] w (VE w (.bool (decide (Fits h.nums)))) := by
  have hl := nums_len h
  have HN := hid (fun W => numbers_any h W)
  have HF := hid hf
  clear hf
  obtain ⟨kind, frm, oper, view, opn, commit, client, session, request, a, b, parent⟩ := h
  have HN2 : Hid (∀ W : World, Calls Tryd.prog 50 #[.agg #[.int .i64 kind, .int .i64 frm, .int .i64 oper, .int .i64 view, .int .i64 opn, .int .i64 commit, .int .i64 client, .int .i64 session, .int .i64 request, .int .i64 a, .int .i64 b, .int .u64 (parent : Int)]] W (VE W (.agg (av (Hd.nums ⟨kind, frm, oper, view, opn, commit, client, session, request, a, b, parent⟩)).toArray))) := hid HN.out
  show Calls Tryd.prog 49 #[.agg #[.int .i64 kind, .int .i64 frm, .int .i64 oper, .int .i64 view, .int .i64 opn, .int .i64 commit, .int .i64 client, .int .i64 session, .int .i64 request, .int .i64 a, .int .i64 b, .int .u64 (parent : Int)]] w _
  generalize Hd.nums ⟨kind, frm, oper, view, opn, commit, client, session, request, a, b, parent⟩ = L at *
  clear HN
  have HL := hid hl
  clear hl
  go_enter Tryd.func49, Tryd.ntmps49
  go_wp2_with (go_at_call 50; refine (HN2.out _).mono ?_; rintro e w1 ⟨rfl, hb1⟩)
  have hb : Below w.heap.size w w1 := ((Below.refl _ _).alloc (Nat.le_refl _) _).trans (hb1.mono (by simp))
  have HF1 := hid (HF.out.below hb HF.out.1)
  have HB := hid hb
  clear hb hb1
  go_loop [7] (fun i => ∃ k : Nat, k ≤ 15 ∧ i = .int .i64 k ∧ Hid (∀ j (hj : j < L.length), j < k → L[j] ≤ mo j)) (fun i => 15 - (intOf i).toNat)
  case atStart => exact ⟨0, by omega, rfl, hid (fun j _ hj => by omega)⟩
  case round =>
    obtain ⟨k, hk, rfl, hpast⟩ := hrel
    by_cases hlt : k < 15
    · have hkl : k < L.length := by rw [HL.out]; exact hlt
      have hix := run_index_arr (P := Tryd.prog) w1 92 25 15 (av L).toArray .i64 k _ .u64 Tryd.underlying92 Tryd.underlying25 (by kernel_rfl) hlt (by simpa using av_get L k hkl)
      have hc := HF1.out.most hlt
      generalize hx : L[k] = x at hix
      generalize hm : mo k = m at hc
      have HX := hid hx
      have HM := hid hm
      clear hx hm
      by_cases hle : x ≤ m
      · go_wp2_with fail
        refine ⟨⟨k + 1, by omega, by go_num, hid (fun j hj hjk => ?_)⟩, by simp [intOf]; omega⟩
        by_cases e : j = k
        · subst e
          rw [HX.out, HM.out]
          exact hle
        · exact hpast.out j hj (by omega)
      · go_wp2_with fail
        go_ret
        have hno : decide (Fits L) = false := decide_eq_false (right_no L k hkl (by rw [HX.out, HM.out]; omega))
        rw [hno]
        exact ⟨rfl, HB.out⟩
    · obtain rfl : k = 15 := by omega
      go_wp2_with fail
      go_ret
      have hyes : decide (Fits L) = true := decide_eq_true ⟨HL.out, fun j hj => hpast.out j hj (by rw [HL.out] at hj; exact hj)⟩
      rw [hyes]
      exact ⟨rfl, HB.out⟩
end Go.Proofs.YteahbalcielhpaaDoor
/-
  The walk of package head's lay.
-/
namespace Go.Proofs.YteahbalcielhpaaDoor
open Go.RowKit
set_option maxRecDepth 10000

theorem cat_mk (a b : List UInt8) : (⟨a.toArray⟩ : ByteArray) ++ ⟨b.toArray⟩ = ⟨(a ++ b).toArray⟩ := by
  apply ByteArray.ext
  simp
theorem BE.len9 {w w' : World} {r : List UInt8} {e : Ending} {n : Nat} {x : Int} (h : BE w (r, x) e w') (hn : r.length = n) :
    ∃ A c, e = .returned (.tuple #[.slice A n c, .int .i64 x]) ∧ w'.ownsRow w.heap.size 5 1 (.slice A n c) n (bvs r) ∧ Below w.heap.size w w' := by
  subst hn
  exact h
/-- Put of a number that fits -/
theorem put_fit (A : Option Addr) (bs : List UInt8) (c n s B : Nat) (W : World) (hr : Rd W B A (bvs bs)) (hs : 1 ≤ s ∧ s ≤ 8) (hn : n < 2 ^ (8 * s)) (hB : B ≤ W.heap.size) (hl : bs.length ≤ 140737488351232) :
    Calls Tryd.prog 60 #[.slice A bs.length c, .int .u64 (n : Int), .int .i64 (s : Int)] W
    fun e w' => ∃ A c, e = .returned (.tuple #[.slice A (bs.length + s) c, .int .i64 0]) ∧ w'.ownsRow W.heap.size 5 1 (.slice A (bs.length + s) c) (bs.length + s) (bvs (bs ++ le n s)) ∧ Below W.heap.size W w' := by
  have h := put_any A bs bs.length c n B s W hr rfl hB hl
  have e : putS bs n s = (bs ++ le n s, 0) := by
    unfold putS
    rw [if_pos ⟨by omega, by omega, Nat.div_eq_of_lt (by simpa using hn)⟩]
    simp
  rw [e] at h
  refine h.mono fun e w' hh => BE.len9 hh (by simp [le_len])
theorem sum_of9 (b : List UInt8) (hb : b.length ≤ 1000000) (W : World) : Calls Tryd.prog 51 #[.string ⟨b.toArray⟩] W fun e w' => e = .returned (.int .u32 ((addS 0#32 b).toNat : Int)) ∧ Below W.heap.size W w' := by
  have h := sum_calls ⟨b.toArray⟩ W (by rw [← sb_len, sb_mk]; omega)
  rw [sb_mk] at h
  exact h
theorem put_sum0 (x : BitVec 32) (W : World) : Calls Tryd.prog 60 #[.slice none 0 0, .int .u64 (x.toNat : Int), .int .i64 4] W
    fun e w' => ∃ A c, e = .returned (.tuple #[.slice A 4 c, .int .i64 0]) ∧ Rd w' w'.heap.size A (bvs (le x.toNat 4)) ∧ Below W.heap.size W w' := by
  have h := put_fit none [] 0 x.toNat 4 0 W Rd.nil (by omega) x.isLt (by omega) (by simp)
  refine h.mono fun e w' ⟨A, c, e1, ho, hb⟩ => ⟨A, c, e1, ?_, hb⟩
  obtain ⟨A', c', e2, _, _, hrd⟩ := own_shape ho
  cases e2
  exact hrd
theorem fits_lt {l : List Nat} (h : Fits l) (k : Nat) (hk : k < l.length) : l[k] < 2 ^ (8 * sz k) := Nat.lt_of_le_of_lt (h.2 k hk) (mo_lt k (by rw [← h.1]; exact hk))
set_option maxHeartbeats 1000000 in
theorem layh_any (l : List Nat) (hfit : Fits l) (w : World) (hf : Fd w) : Calls Tryd.prog 52 #[.agg (av l).toArray] w (SE w (headB l)) := by
  obtain ⟨i0, hi, hz0, hz1, hz2⟩ := info_parts u8info
  have HF := hid hf
  have HFit := hid hfit
  have HL := hid hfit.1
  have HA : Hid ((av l).toArray.size = 15) := hid (by simp [av, hfit.1])
  clear hf hfit
  go_enter Tryd.func52, Tryd.ntmps52
  go_wp2_with (refine wpList_load_row rfl 92 (.tmp 1) rfl w.heap.size rfl 92 (av l).toArray (0, 0) _ (heap_alloc_new _ _) Tryd.underlying92 rfl (by rw [HA.out]; kernel_rfl) ?_)
  have hb0 : Below w.heap.size w (w.alloc (.cells (av l).toArray 92)) := (Below.refl _ _).alloc (Nat.le_refl _) _
  generalize hw1 : w.alloc (.cells (av l).toArray 92) = w1 at *
  have HB0 := hid hb0
  clear hb0 hw1
  go_loopw [3, 9] (fun b i wr => ∃ k : Nat, k ≤ 15 ∧ i = .int .i64 k ∧ (∃ A c, b = .slice A (off k) c ∧ off k ≤ c ∧ wr.ownsRow w.heap.size 5 1 (.slice A (off k) c) (off k) (bvs (fl l k))) ∧ Below w.heap.size w wr) (fun _ i _ => 15 - (intOf i).toNat)
  case atStart => exact ⟨0, by omega, rfl, ⟨none, 0, rfl, Nat.le_refl _, World.ownsRow_nil _ _ _ _⟩, HB0.out⟩
  case round =>
    obtain ⟨k, hk, rfl, ⟨A, c, rfl, hc, hown⟩, hbe⟩ := hrel
    have HBe := hid hbe
    have hsz := hbe.size
    have HO := hid hown
    have hoff := off_le k hk
    by_cases hlt : k < 15
    · have hkl : k < l.length := by rw [HL.out]; exact hlt
      have hix := fun W => run_index_arr (P := Tryd.prog) W 92 25 15 (av l).toArray .i64 k _ .u64 Tryd.underlying92 Tryd.underlying25 (by kernel_rfl) hlt (by simpa using av_get l k hkl)
      have hcz := (HF.out.below hbe HF.out.1).size hlt
      have hsz1 := sz_lo k hlt
      have hfl := fl_len l k
      have HP : Hid (Calls Tryd.prog 60 #[.slice A (off k) c, .int .u64 ((l[k] : Nat) : Int), .int .i64 (sz k : Int)] wr
          fun e w' => ∃ A c, e = .returned (.tuple #[.slice A (off (k + 1)) c, .int .i64 0]) ∧ w'.ownsRow wr.heap.size 5 1 (.slice A (off (k + 1)) c) (off (k + 1)) (bvs (fl l (k + 1))) ∧ Below wr.heap.size wr w') := hid (by
        obtain ⟨A', c', hv, hc', hlen, hrd⟩ := own_shape hown
        cases hv
        have h := put_fit A (fl l k) c l[k] (sz k) wr.heap.size wr hrd hsz1 (fits_lt HFit.out k hkl) (Nat.le_refl _) (by rw [hfl]; omega)
        rw [hfl] at h
        have e1 : fl l (k + 1) = fl l k ++ le l[k] (sz k) := by simp [fl, hkl]
        rw [e1]
        exact h)
      generalize l[k] = x at hix HP
      generalize hs : sz k = s at hcz HP hsz1
      clear hown hbe hs
      go_wp2_with (go_at_call 60; refine HP.out.mono ?_; rintro e w2 ⟨A2, c2, rfl, hown2, hb2⟩)
      exact ⟨⟨k + 1, by omega, by go_num, ⟨A2, c2, rfl, (own_shape hown2).elim fun _ ⟨_, e, hc2, _⟩ => by cases e; exact hc2, own_base hown2 hsz⟩, HBe.out.trans (hb2.mono hsz)⟩, by simp [intOf]; omega⟩
    · obtain rfl : k = 15 := by omega
      rw [off_15] at hown hc
      have hR := restS_len l
      have hrest : bvs (fl l 15) ++ List.replicate 40 (.int .u8 0) = bvs (restS l) := by rw [bvs_zero, ← bvs_app, restS]
      have HS := hid (fun W => sum_of9 (restS l) (by omega) W)
      have HP := hid (fun W => put_sum0 (addS 0#32 (restS l)) W)
      have hfin : headB l = le (addS 0#32 (restS l)).toNat 4 ++ restS l := rfl
      generalize restS l = R at *
      generalize addS 0#32 R = x at *
      have HH := hid hrest
      have HR := hid hR
      have HFN := hid hfin
      have hcat : ¬ (9223372036854775807 < (le x.toNat 4).length + R.length) := by rw [le_len, hR]; omega
      have HL4 := hid (le_len 4 x.toNat)
      clear hrest hR hfin HFit HO hbe
      rw [off_15]
      go_wp2_with (first
        | (with_reducible refine wpl_append_zeros rfl _ _ 80 3 rfl w.heap.size 5 i0 .i64 Tryd.underlying80 Tryd.underlying3 hi hz0 hz1 hz2 (.slice A 84 c) 84 _ rfl hown _ 40 rfl ?_ ?_ ?_ ?_ ?_; intro v2 w2 hown2 hb2 hg2; rw [HH.out] at hown2; obtain ⟨A2, c2, rfl, -, -, hrd2⟩ := own_shape hown2)
        | (with_reducible refine wpl_str rfl _ 80 9 rfl 5 Tryd.underlying80 Tryd.underlying5 Tryd.underlying9 A2 124 c2 rfl w2.heap.size R ?_ (hid hrd2) (hid HR.out.symm))
        | (go_at_call 51; refine (HS.out _).mono ?_; rintro e w3 ⟨rfl, hb3⟩)
        | (go_at_call 60; refine (HP.out _).mono ?_; rintro e w4 ⟨A4, c4, rfl, hrd4, hb4⟩)
        | (with_reducible refine wpl_str rfl _ 80 9 rfl 5 Tryd.underlying80 Tryd.underlying5 Tryd.underlying9 A4 4 c4 rfl w4.heap.size (le x.toNat 4) ?_ (hid hrd4) (hid HL4.out.symm))
        | (with_reducible refine wpl_str rfl _ 80 9 rfl 5 Tryd.underlying80 Tryd.underlying5 Tryd.underlying9 A2 124 c2 rfl w2.heap.size R ?_ (hid ((hrd2.below hb3 (Nat.le_refl _)).below hb4 hb3.size)) (hid HR.out.symm)))
      · go_ret
        refine ⟨by rw [HFN.out, cat_mk]; rfl, ?_⟩
        have s2 := hb2.size
        have s3 := hb3.size
        exact ((HBe.out.trans hb2).trans (hb3.mono (by omega))).trans (hb4.mono (by omega))
      · exact hid rfl
      · exact hid (by omega)
      · exact hid (by omega)
      · exact hid hsz
end Go.Proofs.YteahbalcielhpaaDoor
/-
  The walk of package head's Pack.
-/
namespace Go.Proofs.YteahbalcielhpaaDoor
open Go.RowKit
set_option maxRecDepth 10000

theorem full_fits (h : Hd) (body : List UInt8) (hf : Fits h.nums) (hb : body.length ≤ 3968) : Fits (full h body) := by
  refine ⟨full_len h body, fun k hk => ?_⟩
  have hk15 : k < 15 := by rw [← full_len h body]; exact hk
  simp only [full, List.getElem_set]
  split
  · rename_i e5
    subst e5
    show body.length ≤ 4294967295
    omega
  · split
    · rename_i e0
      subst e0
      have : (addS 0#32 body).toNat < 4294967296 := (addS 0#32 body).isLt
      show _ ≤ 4294967295
      omega
    · exact hf.2 k (by rw [nums_len]; exact hk15)
theorem cat_sb (a : List UInt8) (s : ByteArray) : (⟨a.toArray⟩ : ByteArray) ++ s = ⟨(a ++ sb s).toArray⟩ := by
  apply ByteArray.ext
  simp [sb]
theorem sum_str (s : ByteArray) (h : s.size ≤ 1000000) (W : World) : Calls Tryd.prog 51 #[.string s] W fun e w' => e = .returned (.int .u32 ((addS 0#32 (sb s)).toNat : Int)) ∧ Below W.heap.size W w' := sum_calls s W (by omega)
theorem setRow_row (w : World) (z : Array Value) (cs : List Value) : Row ((w.alloc (.cells z 92)).setRow w.heap.size cs.toArray) w.heap.size 92 cs := setRow_heap _ w.heap.size z cs.toArray 92 (0, 0) (heap_alloc_new _ _)
theorem setRow_below (w : World) (z : Array Value) (cs : List Value) : Below w.heap.size w ((w.alloc (.cells z 92)).setRow w.heap.size cs.toArray) :=
  ((Below.refl _ _).alloc (Nat.le_refl _) _).trans (below_grown (grownBy_setRow _ w.heap.size _) (Nat.le_refl _) (by simp))
set_option maxHeartbeats 1000000 in
theorem pack_form (h : Hd) (body : ByteArray) (w : World) (hf : Fd w) (hno : ¬ Fits h.nums) : Calls Tryd.prog 37 #[h.val, .string body] w (SN w ([], 4)) := by
  have HR : Hid (∀ W, Fd W → Calls Tryd.prog 49 #[h.val] W (VE W (.bool false))) := hid fun W hW => by
    have := right_any h W hW
    rwa [decide_eq_false hno] at this
  have HF := hid hf
  clear hno hf
  obtain ⟨kind, frm, oper, view, opn, commit, client, session, request, a, b, parent⟩ := h
  have HR2 : Hid (∀ W : World, Fd W → Calls Tryd.prog 49 #[.agg #[.int .i64 kind, .int .i64 frm, .int .i64 oper, .int .i64 view, .int .i64 opn, .int .i64 commit, .int .i64 client, .int .i64 session, .int .i64 request, .int .i64 a, .int .i64 b, .int .u64 (parent : Int)]] W (VE W (.bool false))) := hid HR.out
  show Calls Tryd.prog 37 #[.agg #[.int .i64 kind, .int .i64 frm, .int .i64 oper, .int .i64 view, .int .i64 opn, .int .i64 commit, .int .i64 client, .int .i64 session, .int .i64 request, .int .i64 a, .int .i64 b, .int .u64 (parent : Int)], .string body] w _
  have hb0 : Below w.heap.size w (w.alloc (.cells #[.int .i64 kind, .int .i64 frm, .int .i64 oper, .int .i64 view, .int .i64 opn, .int .i64 commit, .int .i64 client, .int .i64 session, .int .i64 request, .int .i64 a, .int .i64 b, .int .u64 (parent : Int)] 78)) := (Below.refl _ _).alloc (Nat.le_refl _) _
  have HB := hid hb0
  clear hb0 HR
  go_enter Tryd.func37, Tryd.ntmps37
  go_wp2_with (go_at_call 49; refine (HR2.out _ (HF.out.below HB.out HF.out.1)).mono ?_; rintro e w1 ⟨rfl, hb1⟩)
  go_ret2
  exact ⟨rfl, HB.out.trans (hb1.mono HB.out.size)⟩
set_option maxHeartbeats 1000000 in
theorem pack_long (h : Hd) (body : ByteArray) (w : World) (hf : Fd w) (hyes : Fits h.nums) (hlong : 3968 < (body.size : Int)) : Calls Tryd.prog 37 #[h.val, .string body] w (SN w ([], 5)) := by
  have HR : Hid (∀ W, Fd W → Calls Tryd.prog 49 #[h.val] W (VE W (.bool true))) := hid fun W hW => by
    have := right_any h W hW
    rwa [decide_eq_true hyes] at this
  have HF := hid hf
  clear hyes hf
  obtain ⟨kind, frm, oper, view, opn, commit, client, session, request, a, b, parent⟩ := h
  have HR2 : Hid (∀ W : World, Fd W → Calls Tryd.prog 49 #[.agg #[.int .i64 kind, .int .i64 frm, .int .i64 oper, .int .i64 view, .int .i64 opn, .int .i64 commit, .int .i64 client, .int .i64 session, .int .i64 request, .int .i64 a, .int .i64 b, .int .u64 (parent : Int)]] W (VE W (.bool true))) := hid HR.out
  show Calls Tryd.prog 37 #[.agg #[.int .i64 kind, .int .i64 frm, .int .i64 oper, .int .i64 view, .int .i64 opn, .int .i64 commit, .int .i64 client, .int .i64 session, .int .i64 request, .int .i64 a, .int .i64 b, .int .u64 (parent : Int)], .string body] w _
  have hb0 : Below w.heap.size w (w.alloc (.cells #[.int .i64 kind, .int .i64 frm, .int .i64 oper, .int .i64 view, .int .i64 opn, .int .i64 commit, .int .i64 client, .int .i64 session, .int .i64 request, .int .i64 a, .int .i64 b, .int .u64 (parent : Int)] 78)) := (Below.refl _ _).alloc (Nat.le_refl _) _
  have HB := hid hb0
  clear hb0 HR
  go_enter Tryd.func37, Tryd.ntmps37
  go_wp2_with (go_at_call 49; refine (HR2.out _ (HF.out.below HB.out HF.out.1)).mono ?_; rintro e w1 ⟨rfl, hb1⟩)
  go_ret2
  exact ⟨rfl, HB.out.trans (hb1.mono HB.out.size)⟩
set_option maxHeartbeats 1000000 in
theorem pack_ok (h : Hd) (body : ByteArray) (w : World) (hf : Fd w) (hyes : Fits h.nums) (hroom : body.size ≤ 3968) : Calls Tryd.prog 37 #[h.val, .string body] w (SN w (headB (full h (sb body)) ++ sb body, 0)) := by
  have HR : Hid (∀ W, Fd W → Calls Tryd.prog 49 #[h.val] W (VE W (.bool true))) := hid fun W hW => by
    have := right_any h W hW
    rwa [decide_eq_true hyes] at this
  have HF := hid hf
  have hsl := sb_len body
  have hff := full_fits h (sb body) hyes (by omega)
  have HLY := hid (fun W hW => layh_any (full h (sb body)) hff W hW)
  have HN := hid (fun W => numbers_any h W)
  have HS := hid (fun W => sum_str body (by omega) W)
  have hnl := nums_len h
  have hBl := headB_len (full h (sb body))
  have hroomI : ¬ (3968 < (body.size : Int)) := by omega
  clear hyes hf hff
  have hfull : full h (sb body) = (h.nums.set 0 (addS 0#32 (sb body)).toNat).set 5 body.size := by rw [full, hsl]
  rw [hfull] at HLY ⊢
  have hset0 : ∀ x, (av h.nums).set 0 (.int .u64 (x : Nat)) = av (h.nums.set 0 x) := fun x => av_set _ _ _
  generalize addS 0#32 (sb body) = x at *
  have hx : x.toNat < 4294967296 := x.isLt
  have hset5 : ∀ l : List Nat, (av l).set 5 (.int .u64 ((body.size : Nat) : Int)) = av (l.set 5 body.size) := fun l => av_set _ _ _
  have HA : Hid ((av h.nums).toArray.size = 15) := hid (by simp [av, hnl])
  have HA2 : Hid ((av ((h.nums.set 0 x.toNat).set 5 body.size)).toArray.size = 15) := hid (by simp [av, hnl])
  have hone : Hid (∀ u ∈ av h.nums, u.oneCell' = true) := hid (av_one _)
  have HROW : Hid (∀ (W : World) (g : Nat), Row W g 92 (av h.nums) → ∃ y z : Nat, W.cell? ⟨g, 0, none⟩ = some (.int .u64 (y : Int)) ∧ W.frozen? ⟨g, 0, none⟩ = false ∧ (W.setCell ⟨g, 0, none⟩ (.int .u64 (x.toNat : Int))).cell? ⟨g, 5, none⟩ = some (.int .u64 (z : Int)) ∧ (W.setCell ⟨g, 0, none⟩ (.int .u64 (x.toNat : Int))).frozen? ⟨g, 5, none⟩ = false ∧ Row ((W.setCell ⟨g, 0, none⟩ (.int .u64 (x.toNat : Int)))) g 92 (av (h.nums.set 0 x.toNat)) ∧ Row ((W.setCell ⟨g, 0, none⟩ (.int .u64 (x.toNat : Int))).setCell ⟨g, 5, none⟩ (.int .u64 ((body.size : Nat) : Int))) g 92 (av ((h.nums.set 0 x.toNat).set 5 body.size))) := hid fun W g hr => by
    have h1 := hr.set_ 0 (.int .u64 (x.toNat : Int))
    rw [av_set] at h1
    have h2 := h1.set_ 5 (.int .u64 ((body.size : Nat) : Int))
    rw [av_set] at h2
    exact ⟨_, _, (hr.cell 0).trans (av_get _ 0 (by rw [hnl]; omega)), hr.frozen _, (h1.cell 5).trans (av_get _ 5 (by simp [hnl])), h1.frozen _, h1, h2⟩
  have hcat : ¬ (9223372036854775807 < (headB ((h.nums.set 0 x.toNat).set 5 body.size)).length + body.size) := by rw [headB_len]; omega
  obtain ⟨kind, frm, oper, view, opn, commit, client, session, request, a, b, parent⟩ := h
  have HR2 : Hid (∀ W : World, Fd W → Calls Tryd.prog 49 #[.agg #[.int .i64 kind, .int .i64 frm, .int .i64 oper, .int .i64 view, .int .i64 opn, .int .i64 commit, .int .i64 client, .int .i64 session, .int .i64 request, .int .i64 a, .int .i64 b, .int .u64 (parent : Int)]] W (VE W (.bool true))) := hid HR.out
  have HN2 : Hid (∀ W : World, Calls Tryd.prog 50 #[.agg #[.int .i64 kind, .int .i64 frm, .int .i64 oper, .int .i64 view, .int .i64 opn, .int .i64 commit, .int .i64 client, .int .i64 session, .int .i64 request, .int .i64 a, .int .i64 b, .int .u64 (parent : Int)]] W (VE W (.agg (av (Hd.nums ⟨kind, frm, oper, view, opn, commit, client, session, request, a, b, parent⟩)).toArray))) := hid HN.out
  show Calls Tryd.prog 37 #[.agg #[.int .i64 kind, .int .i64 frm, .int .i64 oper, .int .i64 view, .int .i64 opn, .int .i64 commit, .int .i64 client, .int .i64 session, .int .i64 request, .int .i64 a, .int .i64 b, .int .u64 (parent : Int)], .string body] w _
  generalize Hd.nums ⟨kind, frm, oper, view, opn, commit, client, session, request, a, b, parent⟩ = L at *
  have hb0 : Below w.heap.size w (w.alloc (.cells #[.int .i64 kind, .int .i64 frm, .int .i64 oper, .int .i64 view, .int .i64 opn, .int .i64 commit, .int .i64 client, .int .i64 session, .int .i64 request, .int .i64 a, .int .i64 b, .int .u64 (parent : Int)] 78)) := (Below.refl _ _).alloc (Nat.le_refl _) _
  have hl0 := Row.new w 78 #[.int .i64 kind, .int .i64 frm, .int .i64 oper, .int .i64 view, .int .i64 opn, .int .i64 commit, .int .i64 client, .int .i64 session, .int .i64 request, .int .i64 a, .int .i64 b, .int .u64 (parent : Int)]
  have hs0 : w.heap.size < (w.alloc (.cells #[.int .i64 kind, .int .i64 frm, .int .i64 oper, .int .i64 view, .int .i64 opn, .int .i64 commit, .int .i64 client, .int .i64 session, .int .i64 request, .int .i64 a, .int .i64 b, .int .u64 (parent : Int)] 78)).heap.size := by simp
  have HB := hid hb0
  have HS0 := hid hs0
  have HL0 := hid hl0
  have hcells : Hid (∀ W : World, Row W w.heap.size 78 (Hd.cells ⟨kind, frm, oper, view, opn, commit, client, session, request, a, b, parent⟩).toList → ∀ i u, (Hd.cells ⟨kind, frm, oper, view, opn, commit, client, session, request, a, b, parent⟩)[i]? = some u → W.cell? ⟨w.heap.size, i, none⟩ = some u) := hid fun W hr i u hu => by
    rw [hr.cell, Array.getElem?_toList]
    exact hu
  clear hb0 hl0 hs0 HR HN hset0 hset5 hnl hBl hfull hsl
  go_enter Tryd.func37, Tryd.ntmps37
  go_wp2_with (first
    | (go_at_call 49; refine (HR2.out _ (HF.out.below HB.out HF.out.1)).mono ?_; rintro e w1 ⟨rfl, hb1⟩;
        have hc := hcells.out w1 (HL0.out.below hb1 HS0.out); have q0 := hc 0 (.int .i64 kind) rfl; have q1 := hc 1 (.int .i64 frm) rfl; have q2 := hc 2 (.int .i64 oper) rfl; have q3 := hc 3 (.int .i64 view) rfl; have q4 := hc 4 (.int .i64 opn) rfl; have q5 := hc 5 (.int .i64 commit) rfl; have q6 := hc 6 (.int .i64 client) rfl; have q7 := hc 7 (.int .i64 session) rfl; have q8 := hc 8 (.int .i64 request) rfl; have q9 := hc 9 (.int .i64 a) rfl; have q10 := hc 10 (.int .i64 b) rfl; have q11 := hc 11 (.int .u64 (parent : Int)) rfl; clear hc)
    | (go_at_call 50; refine (HN2.out _).mono ?_; rintro e w2 ⟨rfl, hb2⟩)
    | (refine wpList_store_row rfl 92 (.tmp 6) (.tmp 14) rfl w2.heap.size (av L).toArray rfl rfl 92 #[.int .u64 0, .int .u64 0, .int .u64 0, .int .u64 0, .int .u64 0, .int .u64 0, .int .u64 0, .int .u64 0, .int .u64 0, .int .u64 0, .int .u64 0, .int .u64 0, .int .u64 0, .int .u64 0, .int .u64 0] (heap_alloc_new _ _) (by rw [HA.out]; kernel_rfl) (by rw [HA.out]; rfl) (by rw [Array.all_eq_true']; intro u hu; exact hone.out u (by simpa using hu)) ?_;
        have hr3 := setRow_row w2 #[.int .u64 0, .int .u64 0, .int .u64 0, .int .u64 0, .int .u64 0, .int .u64 0, .int .u64 0, .int .u64 0, .int .u64 0, .int .u64 0, .int .u64 0, .int .u64 0, .int .u64 0, .int .u64 0, .int .u64 0] (av L); generalize hw3 : (w2.alloc (.cells #[.int .u64 0, .int .u64 0, .int .u64 0, .int .u64 0, .int .u64 0, .int .u64 0, .int .u64 0, .int .u64 0, .int .u64 0, .int .u64 0, .int .u64 0, .int .u64 0, .int .u64 0, .int .u64 0, .int .u64 0] 92)).setRow w2.heap.size (av L).toArray = w3 at hr3 ⊢; have hb3 : Below w2.heap.size w2 w3 := (by rw [← hw3]; exact setRow_below w2 #[.int .u64 0, .int .u64 0, .int .u64 0, .int .u64 0, .int .u64 0, .int .u64 0, .int .u64 0, .int .u64 0, .int .u64 0, .int .u64 0, .int .u64 0, .int .u64 0, .int .u64 0, .int .u64 0, .int .u64 0] (av L));
        have hs3 := hr3.lt; have HR3 := hid hr3; clear hr3 hw3)
    | (go_at_call 51; refine (HS.out _).mono ?_; rintro e w4 ⟨rfl, hb4⟩; obtain ⟨y, z, q12, q13, q14, q15, q16, q17⟩ := HROW.out w4 w2.heap.size (HR3.out.below hb4 hs3); have HR4 := hid q16; have HR5 := hid q17; clear q16 q17;
        have hbA := ((((HB.out.trans (hb1.mono HB.out.size)).trans (hb2.mono (Nat.le_trans HB.out.size hb1.size))).trans (hb3.mono (Nat.le_trans HB.out.size (Nat.le_trans hb1.size hb2.size)))).trans (hb4.mono (Nat.le_trans HB.out.size (Nat.le_trans hb1.size (Nat.le_trans hb2.size hb3.size)))));
        have HBA := hid ((hbA.setCell (p := ⟨w2.heap.size, 0, none⟩) (Nat.le_trans HB.out.size (Nat.le_trans hb1.size hb2.size)) (.int .u64 (x.toNat : Int))).setCell (p := ⟨w2.heap.size, 5, none⟩) (Nat.le_trans HB.out.size (Nat.le_trans hb1.size hb2.size)) (.int .u64 ((body.size : Nat) : Int))); clear hbA)
    | (refine wpList_load_row rfl 92 (.tmp 6) rfl w2.heap.size rfl 92 (av ((L.set 0 x.toNat).set 5 body.size)).toArray (0, 0) _ HR5.out Tryd.underlying92 rfl (by rw [HA2.out]; kernel_rfl) ?_)
    | (go_at_call 52; refine (HLY.out _ (HF.out.below HBA.out HF.out.1)).mono ?_; rintro e w6 ⟨rfl, hb6⟩))
  go_ret2
  exact ⟨by rw [cat_sb]; rfl, HBA.out.trans (hb6.mono HBA.out.size)⟩
theorem pack_any (h : Hd) (body : ByteArray) (w : World) (hf : Fd w) : Calls Tryd.prog 37 #[h.val, .string body] w (SN w (packS h (sb body))) := by
  unfold packS
  have hl := sb_len body
  by_cases hfit : Fits h.nums
  · rw [if_neg (by simpa using hfit)]
    by_cases hlong : 3968 < (sb body).length
    · rw [if_pos hlong]
      exact pack_long h body w hf hfit (by omega)
    · rw [if_neg hlong]
      exact pack_ok h body w hf hfit (by omega)
  · rw [if_pos hfit]
    exact pack_form h body w hf hfit
end Go.Proofs.YteahbalcielhpaaDoor
/-
  The walk of the document's Right.
-/
namespace Go.Proofs.YteahbalcielhpaaDoor
open Go.RowKit
set_option maxRecDepth 10000

def sm (n : Int) : Bool := decide (0 ≤ n ∧ n ≤ 255)
def ft (n : Int) : Bool := decide (0 ≤ n ∧ n ≤ 72057594037927935)
def rightS (h : Hd) : Bool := sm h.kind && sm h.frm && sm h.oper && ft h.view && ft h.opn && ft h.commit && ft h.client && ft h.session && ft h.request && ft h.a && ft h.b
end Go.Proofs.YteahbalcielhpaaDoor
/-
  Plain words on headers: which may be, what is packed and read again, what was turned, cut or grown is found.
-/
namespace Go.Proofs.YteahbalcielhpaaDoor
open Go.RowKit

/-! ### which headers may be -/
theorem fits_iff (h : Hd) (hp : h.parent < 18446744073709551616) : Fits h.nums ↔ (un h.kind ≤ 255 ∧ un h.frm ≤ 255 ∧ un h.oper ≤ 255) ∧ (un h.view ≤ 72057594037927935 ∧ un h.opn ≤ 72057594037927935 ∧ un h.commit ≤ 72057594037927935 ∧ un h.client ≤ 72057594037927935) ∧
    (un h.session ≤ 72057594037927935 ∧ un h.request ≤ 72057594037927935 ∧ un h.a ≤ 72057594037927935 ∧ un h.b ≤ 72057594037927935) := by
  constructor
  · rintro ⟨_, hf⟩
    have hl := nums_len h
    exact ⟨⟨hf 1 (by omega), hf 2 (by omega), hf 3 (by omega)⟩, ⟨hf 7 (by omega), hf 8 (by omega), hf 9 (by omega), hf 10 (by omega)⟩, hf 11 (by omega), hf 12 (by omega), hf 13 (by omega), hf 14 (by omega)⟩
  · rintro ⟨⟨h1, h2, h3⟩, ⟨h7, h8, h9, h10⟩, h11, h12, h13, h14⟩
    refine ⟨rfl, fun k hk => ?_⟩
    match k, hk with
    | 0, _ => exact Nat.zero_le _
    | 1, _ => exact h1
    | 2, _ => exact h2
    | 3, _ => exact h3
    | 4, _ => exact Nat.zero_le _
    | 5, _ => exact Nat.zero_le _
    | 6, _ => exact Nat.le_of_lt_succ hp
    | 7, _ => exact h7
    | 8, _ => exact h8
    | 9, _ => exact h9
    | 10, _ => exact h10
    | 11, _ => exact h11
    | 12, _ => exact h12
    | 13, _ => exact h13
    | 14, _ => exact h14
    | k + 15, hk => exact absurd hk (by rw [nums_len]; omega)
theorem un_small {x : Int} (hx : In64 x) : un x ≤ 255 ↔ 0 ≤ x ∧ x ≤ 255 := by
  have h := un_eq x
  have h0 := un_lt x
  unfold In64 at hx
  omega
theorem un_fits {x : Int} (hx : In64 x) : un x ≤ 72057594037927935 ↔ 0 ≤ x ∧ x ≤ 72057594037927935 := by
  have h := un_eq x
  have h0 := un_lt x
  unfold In64 at hx
  omega
theorem right_fits (h : Hd) (hh : h.fits) : rightS h = decide (Fits h.nums) := by
  obtain ⟨⟨a1, a2, a3, a4, a5, a6⟩, ⟨b1, b2, b3, b4, b5⟩, hp⟩ := hh
  unfold rightS sm ft
  rw [Bool.eq_iff_iff, decide_eq_true_iff, fits_iff h hp, un_small a1, un_small a2, un_small a3, un_fits a4, un_fits a5, un_fits a6, un_fits b1, un_fits b2, un_fits b3, un_fits b4, un_fits b5]
  simp only [Bool.and_eq_true, decide_eq_true_eq]
  constructor
  · rintro ⟨⟨⟨⟨⟨⟨⟨⟨⟨⟨c1, c2⟩, c3⟩, c4⟩, c5⟩, c6⟩, c7⟩, c8⟩, c9⟩, c10⟩, c11⟩
    exact ⟨⟨c1, c2, c3⟩, ⟨c4, c5, c6, c7⟩, c8, c9, c10, c11⟩
  · rintro ⟨⟨c1, c2, c3⟩, ⟨c4, c5, c6, c7⟩, c8, c9, c10, c11⟩
    exact ⟨⟨⟨⟨⟨⟨⟨⟨⟨⟨c1, c2⟩, c3⟩, c4⟩, c5⟩, c6⟩, c7⟩, c8⟩, c9⟩, c10⟩, c11⟩
/-! ### the bytes of one place -/
theorem fl_part (l : List Nat) : ∀ m k, k < m → ∃ t, fl l m = fl l k ++ (le (l.getD k 0) (sz k) ++ t)
  | 0, _, h => by omega
  | m + 1, k, h => by
    by_cases e : k = m
    · subst e
      exact ⟨[], by simp [fl]⟩
    · obtain ⟨t, ht⟩ := fl_part l m k (by omega)
      exact ⟨t ++ le (l.getD m 0) (sz m), by rw [fl, ht]; simp⟩
theorem place (l : List Nat) (body : List UInt8) (k : Nat) (hk : k < 15) : ((headB l ++ body).drop (4 + off k)).take (sz k) = le (l.getD k 0) (sz k) := by
  obtain ⟨t, ht⟩ := fl_part l 15 k hk
  have h4 := sumS_len (restS l)
  have hf := fl_len l k
  have e : headB l ++ body = (sumS (restS l) ++ fl l k) ++ (le (l.getD k 0) (sz k) ++ (t ++ List.replicate 40 0 ++ body)) := by
    have e1 : restS l = fl l k ++ (le (l.getD k 0) (sz k) ++ (t ++ List.replicate 40 0)) := by
      rw [restS, ht]
      simp only [List.append_assoc]
    unfold headB
    rw [show sumS (restS l) ++ restS l = sumS (restS l) ++ (fl l k ++ (le (l.getD k 0) (sz k) ++ (t ++ List.replicate 40 0))) from congrArg (fun z => sumS (restS l) ++ z) e1]
    simp only [List.append_assoc]
  have hl : (sumS (restS l) ++ fl l k).length = 4 + off k := by rw [List.length_append, h4, hf]
  rw [e, ← hl, List.drop_left, List.take_append_of_le_length (by rw [le_len]; exact Nat.le_refl _), List.take_of_length_le (by rw [le_len]; exact Nat.le_refl _)]
/-! ### packed and read again -/
/-- what is packed is so -/
theorem packS_ok {h : Hd} {body s : List UInt8} (e : packS h body = (s, 0)) : Fits h.nums ∧ body.length ≤ 3968 ∧ s = headB (full h body) ++ body := by
  unfold packS at e
  split at e
  · simp at e
  · rename_i hf
    split at e
    · simp at e
    · rename_i hl
      exact ⟨by simpa using hf, by omega, (Prod.mk.inj e).1.symm⟩
theorem packS_yes {h : Hd} {body : List UInt8} (hf : Fits h.nums) (hl : body.length ≤ 3968) : packS h body = (headB (full h body) ++ body, 0) := by
  unfold packS
  rw [if_neg (by simpa using hf), if_neg (by omega)]
/-! ### turned, cut, grown -/
end Go.Proofs.YteahbalcielhpaaDoor
/-
  The walks of Chain, and of the document's Chain.
-/
namespace Go.Proofs.YteahbalcielhpaaDoor
open Go.RowKit
set_option maxRecDepth 10000

theorem cs_calls (h : BitVec 64) (c : UInt8) (w : World) :
    Calls Tryd.prog 39 #[.int .u64 (h.toNat : Int), .int .u8 (c.toNat : Int)] w fun e w' => e = .returned (.int .u64 ((linkStep h c).toNat : Int)) ∧ w = w' := by
  have h1 : h.toNat < 18446744073709551616 := h.isLt
  have h2 : c.toNat < 256 := UInt8.toNat_lt c
  have HC := hid (link_code h c)
  go_enter Tryd.func39, Tryd.ntmps39
  go_wp2
  go_ret
  exact ⟨ret_int HC.out, rfl⟩
theorem orig_code (h : BitVec 64) : bits .xor .u64 (h.toNat : Int) 14695981039346656037 = ((h ^^^ orig).toNat : Int) := by
  have e : (14695981039346656037 : Int) = (orig.toNat : Int) := rfl
  rw [e, xor64]
theorem long8_len (n : Nat) : (long8 n).length = 8 := by simp [long8]
theorem long8_get (n j : Nat) (h : j < 8) : (long8 n)[j]? = some (UInt8.ofNat (n / 2 ^ (8 * j))) := by
  simp [long8, List.getElem?_range h]
theorem links_snoc (h : BitVec 64) (l : List UInt8) (k : Nat) (hk : k < l.length) : (l.take (k + 1)).foldl linkStep h = linkStep ((l.take k).foldl linkStep h) l[k] := by
  rw [List.take_succ_eq_append_getElem hk, List.foldl_append]
  rfl
theorem byte_code (n j : Nat) : ((n : Int) / 2 ^ (8 * j) % 256) = (((UInt8.ofNat (n / 2 ^ (8 * j))).toNat : Nat) : Int) := by
  simp
set_option maxHeartbeats 800000 in
theorem chain_calls (h : BitVec 64) (s : ByteArray) (w : World) (hs : s.size ≤ 1125899906842624) :
    Calls Tryd.prog 24 #[.int .u64 (h.toNat : Int), .string s] w fun e w' => e = .returned (.int .u64 ((chainOf h (sb s)).toNat : Int)) ∧ Below w.heap.size w w' := by
  have hx1 : h.toNat < 18446744073709551616 := h.isLt
  have HS := hid (sb_len s)
  have ho := orig_code h
  go_enter Tryd.func24, Tryd.ntmps24
  go_wp2_with (with_reducible refine wpl_bytes rfl _ _ _ rfl 5 Tryd.underlying9 Tryd.underlying80 Tryd.underlying5 s rfl ?_; intro g c k w2 HG HC HR HB)
  clear ho
  go_loop [0, 14] (fun r i => ∃ k : Nat, k ≤ s.size ∧ i = .int .i64 k ∧ r = .int .u64 ((((sb s).take k).foldl linkStep (h ^^^ orig)).toNat : Int)) (fun _ i => s.size - (intOf i).toNat)
  case atStart => exact ⟨0, by omega, rfl, rfl⟩
  case round =>
    obtain ⟨k, hk, rfl, rfl⟩ := hrel
    by_cases hlt : k < s.size
    · have hkl : k < (sb s).length := by rw [HS.out]; exact hlt
      have hc := HR.cell k
      rw [List.getElem?_append_left (by rw [bvs_len]; exact hkl)] at hc
      simp only [bvs, List.getElem?_map, List.getElem?_eq_getElem hkl, Option.map_some, bv] at hc
      have hstep := links_snoc (h ^^^ orig) (sb s) k hkl
      generalize hb : (sb s)[k] = b at hc hstep
      generalize hx : ((sb s).take k).foldl linkStep (h ^^^ orig) = r at hstep ⊢
      have h1 : r.toNat < 18446744073709551616 := r.isLt
      have h2 : b.toNat < 256 := UInt8.toNat_lt b
      have HST := hid hstep
      clear hb hx hstep
      go_wp2_with (go_at_call 39; refine (cs_calls _ _ _).mono ?_; rintro e w' ⟨rfl, rfl⟩)
      go_round
      case rel => exact ⟨k + 1, by omega, by go_num, by rw [HST.out]⟩
      case measure => simp [intOf]; omega
    · obtain rfl : k = s.size := by omega
      have hxt : (((sb s).take s.size).foldl linkStep (h ^^^ orig)) = (sb s).foldl linkStep (h ^^^ orig) := by rw [List.take_of_length_le (by rw [HS.out]; exact Nat.le_refl _)]
      rw [hxt]
      clear hxt
      generalize hq : (sb s).foldl linkStep (h ^^^ orig) = q
      have hq1 : q.toNat < 18446744073709551616 := q.isLt
      have HQ : Hid (chainOf h (sb s) = (long8 s.size).foldl linkStep q) := hid (by rw [chainOf, List.foldl_append, hq, HS.out])
      clear hq
      go_wp2_with fail
      go_loop [0, 25] (fun r i => ∃ k : Nat, k ≤ 8 ∧ i = .int .i64 k ∧ r = .int .u64 ((((long8 s.size).take k).foldl linkStep q).toNat : Int)) (fun _ i => 8 - (intOf i).toNat)
      case atStart => exact ⟨0, by omega, rfl, rfl⟩
      case round =>
        obtain ⟨j, hj, rfl, rfl⟩ := hrel
        by_cases hjl : j < 8
        · have hl8 : j < (long8 s.size).length := by rw [long8_len]; exact hjl
          have hstep := links_snoc q (long8 s.size) j hl8
          have hgt := long8_get s.size j hjl
          rw [List.getElem?_eq_getElem hl8] at hgt
          rw [Option.some.inj hgt] at hstep
          have hbc := byte_code s.size j
          generalize hx : ((long8 s.size).take j).foldl linkStep q = r at hstep ⊢
          generalize UInt8.ofNat (s.size / 2 ^ (8 * j)) = b at hbc hstep
          have h1 : r.toNat < 18446744073709551616 := r.isLt
          have HST := hid hstep
          have HBC := hid hbc
          clear hx hstep hgt hbc
          go_wp2_with (go_at_call 39; rw [HBC.out]; refine (cs_calls _ _ _).mono ?_; rintro e w' ⟨rfl, rfl⟩)
          go_round
          case rel => exact ⟨j + 1, by omega, by go_num, by rw [HST.out]⟩
          case measure => simp [intOf]; omega
        · obtain rfl : j = 8 := by omega
          have hxt : (((long8 s.size).take 8).foldl linkStep q) = (long8 s.size).foldl linkStep q := by rw [List.take_of_length_le (by rw [long8_len]; exact Nat.le_refl _)]
          rw [hxt, ← HQ.out]
          clear hxt
          generalize hz : chainOf h (sb s) = z
          have HZ := hid hz
          clear hz
          go_wp2_with fail
          go_ret
          exact ⟨by rw [HZ.out]; rfl, HB⟩
end Go.Proofs.YteahbalcielhpaaDoor
