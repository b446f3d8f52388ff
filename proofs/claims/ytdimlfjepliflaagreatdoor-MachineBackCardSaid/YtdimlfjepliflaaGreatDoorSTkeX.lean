/-
  The walk of package session's take, over a session's bytes.
-/
import Derived.Test.YtdimlfjepliflaaGreatDoorD18
import Derived.Test.YtdimlfjepliflaaGreatDoorD10
import Derived.Test.YtdimlfjepliflaaGreatDoorD17
import Derived.Test.YtdimlfjepliflaaGreatDoorLiftX
import Derived.Test.YtdimlfjepliflaaGreatDoorEvX
import Derived.Test.YtdimlfjepliflaaGreatDoorLgX
import Derived.Test.YtdimlfjepliflaaGreatDoorHubX
import Derived.Test.YtdimlfjepliflaaGreatDoorSTtextX
import Derived.Test.YtdimlfjepliflaaGreatDoorSTbX
namespace Go.Proofs.YtdimlfjepliflaaGreatDoor
open Go.RowKit
set_option maxRecDepth 10000

theorem leV_le : ∀ k n, leV (le n k) = n % 2 ^ (8 * k)
  | 0, n => by simp [le, leV, Nat.mod_one]
  | k + 1, n => by
    rw [le, leV, leV_le k, show 8 * (k + 1) = 8 + 8 * k by omega, Nat.pow_add, Nat.mod_mul]
    simp
theorem sub_mid {α : Type} (P Q R : List α) (j m : Nat) (hP : P.length = j) (hQ : Q.length = m) : ((P ++ Q ++ R).drop j).take m = Q := by
  subst hP hQ
  rw [List.append_assoc, List.drop_left, List.take_left]
/-- what Take answers over a number that was laid -/
theorem takeS_le (bs : List UInt8) (a k n : Nat) (h : (bs.drop a).take k = le n k) (hk : 1 ≤ k ∧ k ≤ 8) (hn : n < 2 ^ (8 * k)) : takeS bs (a : Int) (k : Int) = (n, 0) := by
  have hl : k ≤ bs.length - a := by
    have h1 := congrArg List.length h
    rw [le_len, List.length_take, List.length_drop] at h1
    omega
  unfold takeS
  rw [if_neg (by omega), if_neg (by omega), Int.toNat_natCast, Int.toNat_natCast, h, leV_le, Nat.mod_eq_of_lt hn]
theorem ttS_le (bs : List UInt8) (a : Nat) (t : List UInt8) (h : (bs.drop a).take 2 = le t.length 2) (h2 : (bs.drop (a + 2)).take t.length = t) (ht : t.length ≤ 200) (hl : a + 2 + t.length ≤ bs.length) : ttS bs (a : Int) 200 = (t, (a : Int) + 2 + t.length, 0) := by
  have h1 := takeS_le bs a 2 t.length h (by omega) (by show t.length < 2 ^ 16; omega)
  have h1' : takeS bs (a : Int) 2 = (t.length, 0) := h1
  unfold ttS
  rw [h1']
  simp only [ne_eq, not_true, if_false]
  rw [if_neg (by omega)]
  unfold ttN
  rw [Int.toNat_natCast, if_neg (by omega), h2]
theorem i64_fit (n : Nat) (h : n ≤ 72057594037927935) : wrap64 (n : Int) = (n : Int) := IntWalk.wrap64_in _ ⟨by omega, by omega⟩
/-- the first k fields are told -/
def fldK (a b c d : Nat) : Nat → List Value
  | 0 => [.int .i64 0, .int .i64 0, .int .i64 0, .int .i64 0, .string ⟨#[]⟩]
  | 1 => [.int .i64 (a : Int), .int .i64 0, .int .i64 0, .int .i64 0, .string ⟨#[]⟩]
  | 2 => [.int .i64 (a : Int), .int .i64 (b : Int), .int .i64 0, .int .i64 0, .string ⟨#[]⟩]
  | 3 => [.int .i64 (a : Int), .int .i64 (b : Int), .int .i64 (c : Int), .int .i64 0, .string ⟨#[]⟩]
  | _ => [.int .i64 (a : Int), .int .i64 (b : Int), .int .i64 (c : Int), .int .i64 (d : Int), .string ⟨#[]⟩]
theorem sizePtr : (Tryz.prog.info? 178).map (·.size) = some 1 := by kernel_rfl
set_option maxHeartbeats 4000000 in
theorem tks_nat (A : Option Addr) (bs : List UInt8) (l cap B at_8 : Nat) (a b c d : Nat) (t : ByteArray) (w : World) (ha : a ≤ 72057594037927935) (hb : b ≤ 72057594037927935) (hc : c ≤ 72057594037927935) (hd : d ≤ 72057594037927935) (ht : t.size ≤ 200)
    (hr : Rd w B A (bvs bs)) (hl : l = bs.length) (hlc : l ≤ cap) (hB : B ≤ w.heap.size) (hl2 : l ≤ 10000)
    (f0 : (bs.drop at_8).take 8 = le a 8) (f1 : (bs.drop (at_8 + 8)).take 8 = le b 8) (f2 : (bs.drop (at_8 + 16)).take 8 = le c 8) (f3 : (bs.drop (at_8 + 24)).take 8 = le d 8) (f4 : (bs.drop (at_8 + 32)).take 2 = le t.size 2) (f5 : (bs.drop (at_8 + 32 + 2)).take t.size = sb t) (f6 : at_8 + 34 + t.size ≤ bs.length) :
    Calls Tryz.prog 98 #[.slice A l cap, .int .i64 (at_8 : Int)] w (SP w [.int .i64 (a : Int), .int .i64 (b : Int), .int .i64 (c : Int), .int .i64 (d : Int), .string t] (at_8 + 34 + t.size)) := by
  have HT0 := hid (fun W (hW : Below w.heap.size w W) => take_any A bs l cap B ((at_8 : Nat) : Int) ((8 : Nat) : Int) W (hr.below hW hB) hl (by omega) hlc (Nat.le_trans hB hW.size))
  rw [takeS_le bs (at_8) 8 a f0 (by omega) (by show a < 2 ^ 64; omega)] at HT0
  have HTK0 : Hid (∀ W, Below w.heap.size w W → Calls Tryz.prog 97 #[.slice A l cap, .int .i64 ((at_8 : Nat) : Int), .int .i64 8] W (NE W (a, 0))) := hid HT0.out
  have HT1 := hid (fun W (hW : Below w.heap.size w W) => take_any A bs l cap B ((at_8 + 8 : Nat) : Int) ((8 : Nat) : Int) W (hr.below hW hB) hl (by omega) hlc (Nat.le_trans hB hW.size))
  rw [takeS_le bs (at_8 + 8) 8 b f1 (by omega) (by show b < 2 ^ 64; omega)] at HT1
  have HTK1 : Hid (∀ W, Below w.heap.size w W → Calls Tryz.prog 97 #[.slice A l cap, .int .i64 ((at_8 + 8 : Nat) : Int), .int .i64 8] W (NE W (b, 0))) := hid HT1.out
  have HT2 := hid (fun W (hW : Below w.heap.size w W) => take_any A bs l cap B ((at_8 + 16 : Nat) : Int) ((8 : Nat) : Int) W (hr.below hW hB) hl (by omega) hlc (Nat.le_trans hB hW.size))
  rw [takeS_le bs (at_8 + 16) 8 c f2 (by omega) (by show c < 2 ^ 64; omega)] at HT2
  have HTK2 : Hid (∀ W, Below w.heap.size w W → Calls Tryz.prog 97 #[.slice A l cap, .int .i64 ((at_8 + 16 : Nat) : Int), .int .i64 8] W (NE W (c, 0))) := hid HT2.out
  have HT3 := hid (fun W (hW : Below w.heap.size w W) => take_any A bs l cap B ((at_8 + 24 : Nat) : Int) ((8 : Nat) : Int) W (hr.below hW hB) hl (by omega) hlc (Nat.le_trans hB hW.size))
  rw [takeS_le bs (at_8 + 24) 8 d f3 (by omega) (by show d < 2 ^ 64; omega)] at HT3
  have HTK3 : Hid (∀ W, Below w.heap.size w W → Calls Tryz.prog 97 #[.slice A l cap, .int .i64 ((at_8 + 24 : Nat) : Int), .int .i64 8] W (NE W (d, 0))) := hid HT3.out
  have HTT := hid (fun W (hW : Below w.heap.size w W) => tt_any A bs l cap B ((at_8 + 32 : Nat) : Int) 200 W (hr.below hW hB) hl (by omega) hlc (Nat.le_trans hB hW.size))
  rw [ttS_le bs (at_8 + 32) (sb t) (by rw [sb_len]; exact f4) (by rw [sb_len]; exact f5) (by rw [sb_len]; exact ht) (by rw [sb_len]; omega), sb_len] at HTT
  have HTX : Hid (∀ W, Below w.heap.size w W → Calls Tryz.prog 137 #[.slice A l cap, .int .i64 ((at_8 + 32 : Nat) : Int), .int .i64 200] W fun e w' => e = .returned (.tuple #[.string t, .int .i64 ((at_8 + 34 + t.size : Nat) : Int), .int .i64 0]) ∧ Below W.heap.size W w') := hid (fun W hW => (HTT.out W hW).mono fun e w' hh => ⟨by rw [hh.1, mk_sb]; congr 4 <;> omega, hh.2⟩)
  have hal : at_8 + 34 ≤ 10000 := by omega
  have HAL := hid hal
  have na : ¬ (72057594037927935 : Int) < (a : Int) := by omega
  have nb : ¬ (72057594037927935 : Int) < (b : Int) := by omega
  have nc : ¬ (72057594037927935 : Int) < (c : Int) := by omega
  have nd : ¬ (72057594037927935 : Int) < (d : Int) := by omega
  have HWa := hid (i64_fit a ha)
  have HWb := hid (i64_fit b hb)
  have HWc := hid (i64_fit c hc)
  have HWd := hid (i64_fit d hd)
  have HZ := hid ssSize
  have HSP := hid sizePtr
  have HR0 := hid (show Row ((w.alloc (.cells ss0.cells.toArray 65)).alloc (.cells ss0.cells.toArray 65)) w.heap.size 65 ss0.cells from Row.alloc (Row.new _ _ _) _)
  have HR1 := hid (show Row ((w.alloc (.cells ss0.cells.toArray 65)).alloc (.cells ss0.cells.toArray 65)) (w.heap.size + 1) 65 (fldK a b c d 0) from alloc2_new _ _ _)
  have HB0 := hid (((Below.refl w.heap.size w).alloc (Nat.le_refl _) (.cells ss0.cells.toArray 65)).alloc (by simp) (.cells ss0.cells.toArray 65))
  have HF0 : Hid ((fldK a b c d 0).set 0 (.int .i64 (a : Int)) = fldK a b c d 1) := hid rfl
  have HF1 : Hid ((fldK a b c d 1).set 1 (.int .i64 (b : Int)) = fldK a b c d 2) := hid rfl
  have HF2 : Hid ((fldK a b c d 2).set 2 (.int .i64 (c : Int)) = fldK a b c d 3) := hid rfl
  have HF3 : Hid ((fldK a b c d 3).set 3 (.int .i64 (d : Int)) = fldK a b c d 4) := hid rfl
  have HF4 : Hid ((fldK a b c d 4).set 4 (.string t) = [.int .i64 (a : Int), .int .i64 (b : Int), .int .i64 (c : Int), .int .i64 (d : Int), .string t]) := hid rfl
  have HFL : Hid (∀ k j, j < 5 → ∃ u, (fldK a b c d k)[j]? = some u) := hid (by
    intro k j hj
    have : (fldK a b c d k).length = 5 := by unfold fldK; split <;> rfl
    exact ⟨_, List.getElem?_eq_getElem (by omega)⟩)
  generalize fldK a b c d = F at *
  clear hr hl hlc hB hl2 f0 f1 f2 f3 f4 f5 f6 HT0 HT1 HT2 HT3 HTT hal ha hb hc hd ht
  go_enter Tryz.func98, Tryz.ntmps98
  go_wp2_with fail
  refine name_wp fun w1 hw1 => ?_
  have HWE : Hid (w1 = (w.alloc (.cells ss0.cells.toArray 65)).alloc (.cells ss0.cells.toArray 65)) := hid hw1
  clear hw1
  go_loopw [1, 20] (fun av iv wr => ∃ k q : Nat, k ≤ 4 ∧ q = at_8 + k * 8 ∧ iv = .int .i64 ((k : Nat) : Int) ∧ av = .int .i64 ((q : Nat) : Int) ∧ Row wr (w.heap.size + 1) 65 (F k) ∧ Row wr w.heap.size 65 ss0.cells ∧ Below w.heap.size w wr) (fun _ iv _ => 4 - (intOf iv).toNat)
  case atStart => exact ⟨0, at_8, by omega, by omega, rfl, rfl, by rw [HWE.out]; exact HR1.out, by rw [HWE.out]; exact HR0.out, by rw [HWE.out]; exact HB0.out⟩
  case round =>
    obtain ⟨k, q, hk, hq, rfl, rfl, hrow, hres, hbe⟩ := hrel
    have HBE := hid hbe
    have HRES := hid hres
    have HROW := hid hrow
    have HQ := hid hq
    have HK := hid hk
    clear hbe hres hrow hq hk
    have h5 : k = 0 ∨ k = 1 ∨ k = 2 ∨ k = 3 ∨ k = 4 := by have := HK.out; omega
    rcases h5 with rfl | rfl | rfl | rfl | rfl
    · have HQ2 : Hid (q = at_8) := hid (by have := HQ.out; omega)
      have hqb : q ≤ 10000 := by have := HQ2.out; have := HAL.out; omega
      have HTQ := hid (fun W (hW : Below w.heap.size w W) => HTK0.out W hW)
      rw [← HQ2.out] at HTQ
      have wv := HWa.out
      go_wp2_with (first
        | (refine wpl_index_arr rfl 179 (.tmp 19) (.tmp 20) rfl 178 4 _ .i64 0 (.pointer (some ⟨w.heap.size + 1, 0, none⟩)) rfl rfl Tryz.underlying179 (fun w => Tryz.isAgg178 w) HSP.out (by decide) rfl ?_)
        | (go_at_call 97; refine (HTQ.out _ HBE.out).mono ?_; rintro e w3 ⟨rfl, hb3⟩; have HR3 := hid (HROW.out.below hb3 HROW.out.lt); have HZ3 := hid (HRES.out.below hb3 HRES.out.lt); have HB3 := hid hb3; have hf3 := HR3.out.frozen 0; obtain ⟨u3, hu3⟩ := HFL.out 0 0 (by decide); have hc3 := HR3.out.at_ 0 _ hu3; clear hb3 hu3))
      clear wv
      refine ⟨⟨1, q + 8, by omega, by have := HQ2.out; omega, rfl, by go_num, ?_, HZ3.out.far (by show w.heap.size ≠ w.heap.size + 1; omega) _, ?_⟩, by simp [intOf]⟩
      · rw [← HF0.out]; exact HR3.out.set_ 0 _
      · have hb4 := HBE.out.trans (HB3.out.mono HBE.out.size)
        exact hb4.trans (below_grown (gset w3 (w.heap.size + 1) 0 _) (by omega) hb4.size)
    · have HQ2 : Hid (q = at_8 + 8) := hid (by have := HQ.out; omega)
      have hqb : q ≤ 10000 := by have := HQ2.out; have := HAL.out; omega
      have HTQ := hid (fun W (hW : Below w.heap.size w W) => HTK1.out W hW)
      rw [← HQ2.out] at HTQ
      have wv := HWb.out
      go_wp2_with (first
        | (refine wpl_index_arr rfl 179 (.tmp 19) (.tmp 20) rfl 178 4 _ .i64 1 (.pointer (some ⟨w.heap.size + 1, 1, none⟩)) rfl rfl Tryz.underlying179 (fun w => Tryz.isAgg178 w) HSP.out (by decide) rfl ?_)
        | (go_at_call 97; refine (HTQ.out _ HBE.out).mono ?_; rintro e w3 ⟨rfl, hb3⟩; have HR3 := hid (HROW.out.below hb3 HROW.out.lt); have HZ3 := hid (HRES.out.below hb3 HRES.out.lt); have HB3 := hid hb3; have hf3 := HR3.out.frozen 1; obtain ⟨u3, hu3⟩ := HFL.out 1 1 (by decide); have hc3 := HR3.out.at_ 1 _ hu3; clear hb3 hu3))
      clear wv
      refine ⟨⟨2, q + 8, by omega, by have := HQ2.out; omega, rfl, by go_num, ?_, HZ3.out.far (by show w.heap.size ≠ w.heap.size + 1; omega) _, ?_⟩, by simp [intOf]⟩
      · rw [← HF1.out]; exact HR3.out.set_ 1 _
      · have hb4 := HBE.out.trans (HB3.out.mono HBE.out.size)
        exact hb4.trans (below_grown (gset w3 (w.heap.size + 1) 1 _) (by omega) hb4.size)
    · have HQ2 : Hid (q = at_8 + 16) := hid (by have := HQ.out; omega)
      have hqb : q ≤ 10000 := by have := HQ2.out; have := HAL.out; omega
      have HTQ := hid (fun W (hW : Below w.heap.size w W) => HTK2.out W hW)
      rw [← HQ2.out] at HTQ
      have wv := HWc.out
      go_wp2_with (first
        | (refine wpl_index_arr rfl 179 (.tmp 19) (.tmp 20) rfl 178 4 _ .i64 2 (.pointer (some ⟨w.heap.size + 1, 2, none⟩)) rfl rfl Tryz.underlying179 (fun w => Tryz.isAgg178 w) HSP.out (by decide) rfl ?_)
        | (go_at_call 97; refine (HTQ.out _ HBE.out).mono ?_; rintro e w3 ⟨rfl, hb3⟩; have HR3 := hid (HROW.out.below hb3 HROW.out.lt); have HZ3 := hid (HRES.out.below hb3 HRES.out.lt); have HB3 := hid hb3; have hf3 := HR3.out.frozen 2; obtain ⟨u3, hu3⟩ := HFL.out 2 2 (by decide); have hc3 := HR3.out.at_ 2 _ hu3; clear hb3 hu3))
      clear wv
      refine ⟨⟨3, q + 8, by omega, by have := HQ2.out; omega, rfl, by go_num, ?_, HZ3.out.far (by show w.heap.size ≠ w.heap.size + 1; omega) _, ?_⟩, by simp [intOf]⟩
      · rw [← HF2.out]; exact HR3.out.set_ 2 _
      · have hb4 := HBE.out.trans (HB3.out.mono HBE.out.size)
        exact hb4.trans (below_grown (gset w3 (w.heap.size + 1) 2 _) (by omega) hb4.size)
    · have HQ2 : Hid (q = at_8 + 24) := hid (by have := HQ.out; omega)
      have hqb : q ≤ 10000 := by have := HQ2.out; have := HAL.out; omega
      have HTQ := hid (fun W (hW : Below w.heap.size w W) => HTK3.out W hW)
      rw [← HQ2.out] at HTQ
      have wv := HWd.out
      go_wp2_with (first
        | (refine wpl_index_arr rfl 179 (.tmp 19) (.tmp 20) rfl 178 4 _ .i64 3 (.pointer (some ⟨w.heap.size + 1, 3, none⟩)) rfl rfl Tryz.underlying179 (fun w => Tryz.isAgg178 w) HSP.out (by decide) rfl ?_)
        | (go_at_call 97; refine (HTQ.out _ HBE.out).mono ?_; rintro e w3 ⟨rfl, hb3⟩; have HR3 := hid (HROW.out.below hb3 HROW.out.lt); have HZ3 := hid (HRES.out.below hb3 HRES.out.lt); have HB3 := hid hb3; have hf3 := HR3.out.frozen 3; obtain ⟨u3, hu3⟩ := HFL.out 3 3 (by decide); have hc3 := HR3.out.at_ 3 _ hu3; clear hb3 hu3))
      clear wv
      refine ⟨⟨4, q + 8, by omega, by have := HQ2.out; omega, rfl, by go_num, ?_, HZ3.out.far (by show w.heap.size ≠ w.heap.size + 1; omega) _, ?_⟩, by simp [intOf]⟩
      · rw [← HF3.out]; exact HR3.out.set_ 3 _
      · have hb4 := HBE.out.trans (HB3.out.mono HBE.out.size)
        exact hb4.trans (below_grown (gset w3 (w.heap.size + 1) 3 _) (by omega) hb4.size)
    · have HQ2 : Hid (q = at_8 + 32) := hid (by have := HQ.out; omega)
      have hqb : q ≤ 10000 := by have := HQ2.out; have := HAL.out; omega
      have HTQ := hid (fun W (hW : Below w.heap.size w W) => HTX.out W hW)
      rw [← HQ2.out] at HTQ
      go_wp2_with (first
        | (go_at_call 137; refine (HTQ.out _ HBE.out).mono ?_; rintro e w3 ⟨rfl, hb3⟩; have HR3 := hid (HROW.out.below hb3 HROW.out.lt); have HZ3 := hid (HRES.out.below hb3 HRES.out.lt); have HB3 := hid hb3; have hf3 := HR3.out.frozen 4; obtain ⟨u3, hu3⟩ := HFL.out 4 4 (by decide); have hc3 := HR3.out.at_ 4 _ hu3; have HR4 := hid (HR3.out.set_ 4 (.string t)); rw [HF4.out] at HR4; have HZ4 := hid (HZ3.out.far (p := ⟨w.heap.size + 1, 4, none⟩) (by show w.heap.size ≠ w.heap.size + 1; omega) (.string t)); clear hb3 hu3)
        | (refine wpList_load_row rfl 65 (.tmp 7) rfl (w.heap.size + 1) rfl 65 _ (0, 0) _ HR4.out.arr' Tryz.underlying65 rfl HZ.out ?_)
        | (refine wpl_store_st rfl (.tmp 4) (.tmp 52) rfl HZ.out w.heap.size ss0.cells [.int .i64 (a : Int), .int .i64 (b : Int), .int .i64 (c : Int), .int .i64 (d : Int), .string t] rfl rfl HZ4.out ?_ (hid rfl) (hid rfl) (hid rfl); intro w5 hr5 hg5))
      refine bodyPost_ret (results_cell2 rfl _ _ w.heap.size 65 _ (0, 0) _ _ _ rfl rfl rfl hr5.arr' Tryz.underlying65 rfl HZ.out) rfl ⟨rfl, ?_⟩
      have hb4 := HBE.out.trans (HB3.out.mono HBE.out.size)
      have hb5 := hb4.trans (below_grown (gset w3 (w.heap.size + 1) 4 (.string t)) (by omega) hb4.size)
      exact hb5.trans (below_grown hg5 (Nat.le_refl _) hb5.size)
theorem tks_any (A : Option Addr) (pre post : List UInt8) (x : Ss) (l cap B : Nat) (w : World) (hx : x.ok) (hr : Rd w B A (bvs (pre ++ ssB x ++ post))) (hl : l = (pre ++ ssB x ++ post).length) (hlc : l ≤ cap) (hB : B ≤ w.heap.size) (hl2 : l ≤ 10000) :
    Calls Tryz.prog 98 #[.slice A l cap, .int .i64 (pre.length : Int)] w (SP w x.cells (pre.length + 34 + x.t.size)) := by
  obtain ⟨c, s, r, o, t⟩ := x
  obtain ⟨h1, h2, h3, h4, h5⟩ := hx
  obtain ⟨c', rfl⟩ : ∃ n : Nat, c = (n : Int) := ⟨c.toNat, by have := h1.1; simp only at this; omega⟩
  obtain ⟨s', rfl⟩ : ∃ n : Nat, s = (n : Int) := ⟨s.toNat, by have := h2.1; simp only at this; omega⟩
  obtain ⟨r', rfl⟩ : ∃ n : Nat, r = (n : Int) := ⟨r.toNat, by have := h3.1; simp only at this; omega⟩
  obtain ⟨o', rfl⟩ : ∃ n : Nat, o = (n : Int) := ⟨o.toNat, by have := h4.1; simp only at this; omega⟩
  have e : ssB ⟨(c' : Int), (s' : Int), (r' : Int), (o' : Int), t⟩ = le c' 8 ++ le s' 8 ++ le r' 8 ++ le o' 8 ++ le t.size 2 ++ sb t := by
    simp only [ssB, Int.toNat_natCast]
  rw [e] at hr hl
  refine tks_nat A _ l cap B pre.length c' s' r' o' t w (by have := h1.2; simp only at this; omega) (by have := h2.2; simp only at this; omega) (by have := h3.2; simp only at this; omega) (by have := h4.2; simp only at this; omega) h5 hr hl hlc hB hl2 ?_ ?_ ?_ ?_ ?_ ?_ ?_
  · have e2 : pre ++ (le c' 8 ++ le s' 8 ++ le r' 8 ++ le o' 8 ++ le t.size 2 ++ sb t) ++ post = (pre) ++ le c' 8 ++ (le s' 8 ++ le r' 8 ++ le o' 8 ++ le t.size 2 ++ sb t ++ post) := by simp only [List.append_assoc]
    rw [e2]
    exact sub_mid _ _ _ _ _ (by first | rfl | simp only [List.length_append, le_len]) (by first | rw [le_len] | rw [sb_len])
  · have e2 : pre ++ (le c' 8 ++ le s' 8 ++ le r' 8 ++ le o' 8 ++ le t.size 2 ++ sb t) ++ post = (pre ++ le c' 8) ++ le s' 8 ++ (le r' 8 ++ le o' 8 ++ le t.size 2 ++ sb t ++ post) := by simp only [List.append_assoc]
    rw [e2]
    exact sub_mid _ _ _ _ _ (by first | rfl | simp only [List.length_append, le_len]) (by first | rw [le_len] | rw [sb_len])
  · have e2 : pre ++ (le c' 8 ++ le s' 8 ++ le r' 8 ++ le o' 8 ++ le t.size 2 ++ sb t) ++ post = (pre ++ le c' 8 ++ le s' 8) ++ le r' 8 ++ (le o' 8 ++ le t.size 2 ++ sb t ++ post) := by simp only [List.append_assoc]
    rw [e2]
    exact sub_mid _ _ _ _ _ (by first | rfl | simp only [List.length_append, le_len]) (by first | rw [le_len] | rw [sb_len])
  · have e2 : pre ++ (le c' 8 ++ le s' 8 ++ le r' 8 ++ le o' 8 ++ le t.size 2 ++ sb t) ++ post = (pre ++ le c' 8 ++ le s' 8 ++ le r' 8) ++ le o' 8 ++ (le t.size 2 ++ sb t ++ post) := by simp only [List.append_assoc]
    rw [e2]
    exact sub_mid _ _ _ _ _ (by first | rfl | simp only [List.length_append, le_len]) (by first | rw [le_len] | rw [sb_len])
  · have e2 : pre ++ (le c' 8 ++ le s' 8 ++ le r' 8 ++ le o' 8 ++ le t.size 2 ++ sb t) ++ post = (pre ++ le c' 8 ++ le s' 8 ++ le r' 8 ++ le o' 8) ++ le t.size 2 ++ (sb t ++ post) := by simp only [List.append_assoc]
    rw [e2]
    exact sub_mid _ _ _ _ _ (by first | rfl | simp only [List.length_append, le_len]) (by first | rw [le_len] | rw [sb_len])
  · have e2 : pre ++ (le c' 8 ++ le s' 8 ++ le r' 8 ++ le o' 8 ++ le t.size 2 ++ sb t) ++ post = (pre ++ le c' 8 ++ le s' 8 ++ le r' 8 ++ le o' 8 ++ le t.size 2) ++ sb t ++ (post) := by simp only [List.append_assoc]
    rw [e2]
    exact sub_mid _ _ _ _ _ (by first | rfl | simp only [List.length_append, le_len]) (by first | rw [le_len] | rw [sb_len])
  · simp only [List.length_append, le_len, sb_len]
    omega
end Go.Proofs.YtdimlfjepliflaaGreatDoor
