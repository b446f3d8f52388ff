/-
  The walks of New, of the calls of a disk that is not there, of sector, Kept and Mix.
-/
import Derived.Test.YtdkgpjmehdpliaaRot
namespace Go.Proofs.Ytdkgpjmehdpliaa
open Go.RowKit

def zsec : List Value := secCells sec0 0
theorem zsec_len : zsec.length = 386 := secCells_len _ _ sec0_len
theorem infoSec : (Try.prog.info? 69).map (fun i => (i.zero, i.size, i.bytes)) = some (some (.agg zsec.toArray), 386, 400) := by kernel_rfl
theorem rows0 (n : Nat) : secRows (List.replicate n sec0) (newest []) = List.replicate n zsec := by
  apply List.ext_getElem?
  intro j
  simp only [secRows, List.getElem?_mapIdx, List.getElem?_replicate]
  split <;> rfl

theorem mk0_wf (n : Nat) (h : n ≤ 64) : (Sp.mk0 n).WF :=
  ⟨by intro s hs; rw [List.eq_of_mem_replicate hs]; exact sec0_len, by simp [Sp.mk0], by simpa [Sp.mk0] using h, by simp [Sp.mk0], by simp [Sp.mk0]⟩

set_option maxRecDepth 10000 in
theorem new_no (i : Int) (w : World) (h : ¬ (1 ≤ i ∧ i ≤ 64)) :
    Calls Try.prog 10 #[.int .i64 i] w fun e w' => e = .returned (.tuple #[.pointer none, .int .i64 1]) ∧ w = w' := by
  have hq : (decide (i < 1) || decide (64 < i)) = true := by simp; omega
  clear h
  go_enter Try.func10, Try.ntmps10
  go_wp2_with fail
  all_goals (go_ret2; exact ⟨rfl, rfl⟩)

/-- a new disk, and no error -/
def NewD (w : World) (n : Nat) (e : Ending) (w' : World) : Prop :=
  ∃ p gs, e = .returned (.tuple #[dptr p, .int .i64 0]) ∧ HasD w' p gs (.slice none 0 0) (Sp.mk0 n) ∧ Fr w w' [] ∧ w.heap.size ≤ p ∧ w.heap.size ≤ gs

set_option maxRecDepth 10000 in
theorem new_yes (n : Nat) (w : World) (h1 : 1 ≤ n) (h2 : n ≤ 64) :
    Calls Try.prog 10 #[.int .i64 (n : Int)] w (NewD w n) := by
  obtain ⟨i0, hi, hz0, hz1, hz2⟩ := info_parts infoSec
  have b1 : Hid ((n : Int) = (n : Int)) := hid rfl
  have b2 : Hid (i0.bytes * n ≤ 281474976710656) := hid (by rw [hz2]; omega)
  have b3 : Hid (n ≤ maxLen) := hid (le_maxLen (by omega))
  have hz3 : i0.size = zsec.length := by rw [hz1, zsec_len]
  have HZ := hid hz3
  clear hz3 hz1 hz2
  go_enter Try.func10, Try.ntmps10
  go_wp2_with (with_reducible refine wpl_make_big rfl (.tmp 10) (.tmp 10) 61 rfl 69 i0 (.agg zsec.toArray) zsec Try.underlying61 hi hz0 HZ.out rfl (by rw [zsec_len]; decide) .i64 .i64 n n n rfl rfl ?_ b1 b1 b2 b3; intro g w1 hg hr hgr)
  go_ret2
  have hf : Fr w w1 [] := (Fr.refl w []).grown hgr (by intro k hk; cases hk)
  refine ⟨w1.heap.size, g, rfl, ⟨?_, ?_, World.ownsRow_nil _ _ _ _, ?_, by simp [Value.ownBlock], by simp [Value.ownBlock], mk0_wf n h2⟩, hf.alloc _, hf.size, Nat.le_of_eq hg.out.symm⟩
  · have := Row.new w1 64 #[.slice (some ⟨g, 0, none⟩) n n, .slice none 0 0, .bool true, .int .i64 0, .int .i64 0]
    simpa [Sp.mk0] using this
  · have := hr.alloc (.cells #[.slice (some ⟨g, 0, none⟩) n n, .slice none 0 0, .bool true, .int .i64 0, .int .i64 0] 64)
    rw [← rows0] at this
    exact this
  · have := hr.lt; omega

/-! ### a disk that is not there -/
def nilP : Value := .pointer none
theorem nil_Write (i : Int) (s : ByteArray) (w : World) : Calls Try.prog 24 #[nilP, .int .i64 i, .string s] w fun e w' => e = .returned (.int .i64 2) ∧ w = w' := by
  unfold nilP
  go_enter Try.func24, Try.ntmps24
  go_wp2
  go_ret
  exact ⟨rfl, rfl⟩
theorem nil_Flush (w : World) : Calls Try.prog 26 #[nilP] w fun e w' => e = .returned (.int .i64 2) ∧ w = w' := by
  unfold nilP
  go_enter Try.func26, Try.ntmps26
  go_wp2
  go_ret
  exact ⟨rfl, rfl⟩
theorem nil_Fuse (i : Int) (w : World) : Calls Try.prog 29 #[nilP, .int .i64 i] w fun e w' => e = .returned (.int .i64 2) ∧ w = w' := by
  unfold nilP
  go_enter Try.func29, Try.ntmps29
  go_wp2
  go_ret
  exact ⟨rfl, rfl⟩
theorem nil_Cut (w : World) : Calls Try.prog 22 #[nilP] w fun e w' => e = .returned (.int .i64 2) ∧ w = w' := by
  unfold nilP
  go_enter Try.func22, Try.ntmps22
  go_wp2
  go_ret
  exact ⟨rfl, rfl⟩
theorem nil_Start (A : Option Addr) (l c : Nat) (w : World) : Calls Try.prog 23 #[nilP, .slice A l c] w fun e w' => e = .returned (.int .i64 2) ∧ Fr w w' [] := by
  unfold nilP
  have HF := hid ((Fr.refl w []).alloc (.cells #[.slice A l c] 32))
  go_enter Try.func23, Try.ntmps23
  go_wp2
  go_ret
  exact ⟨rfl, HF.out⟩
theorem nil_Rot (i a m : Int) (w : World) : Calls Try.prog 30 #[nilP, .int .i64 i, .int .i64 a, .int .i64 m] w fun e w' => e = .returned (.int .i64 2) ∧ w = w' := by
  unfold nilP
  go_enter Try.func30, Try.ntmps30
  go_wp2
  go_ret
  exact ⟨rfl, rfl⟩
theorem nil_Read (i : Int) (w : World) : Calls Try.prog 17 #[nilP, .int .i64 i] w fun e w' => TN ([], 2) e ∧ w = w' := by
  unfold nilP
  go_enter Try.func17, Try.ntmps17
  go_wp2
  go_ret2
  exact ⟨rfl, rfl⟩
theorem nil_On (w : World) : Calls Try.prog 14 #[nilP] w fun e w' => e = .returned (.bool false) ∧ w = w' := by
  unfold nilP
  go_enter Try.func14, Try.ntmps14
  go_wp2
  go_ret
  exact ⟨rfl, rfl⟩
theorem nil_Marked (i : Int) (w : World) : Calls Try.prog 19 #[nilP, .int .i64 i] w fun e w' => e = .returned (.bool false) ∧ w = w' := by
  unfold nilP
  go_enter Try.func19, Try.ntmps19
  go_wp2
  go_ret
  exact ⟨rfl, rfl⟩
theorem nil_Lasts (i : Int) (w : World) : Calls Try.prog 21 #[nilP, .int .i64 i] w fun e w' => e = .returned (str []) ∧ w = w' := by
  unfold nilP
  go_enter Try.func21, Try.ntmps21
  go_wp2
  go_ret
  exact ⟨rfl, rfl⟩
theorem nil_Pending (w : World) : Calls Try.prog 15 #[nilP] w fun e w' => e = .returned (.int .i64 0) ∧ w = w' := by
  unfold nilP
  go_enter Try.func15, Try.ntmps15
  go_wp2
  go_ret
  exact ⟨rfl, rfl⟩
theorem nil_Steps (w : World) : Calls Try.prog 16 #[nilP] w fun e w' => e = .returned (.int .i64 0) ∧ w = w' := by
  unfold nilP
  go_enter Try.func16, Try.ntmps16
  go_wp2
  go_ret
  exact ⟨rfl, rfl⟩

/-! ### sector, Kept, Mix -/
theorem infoU8 : (Try.prog.info? 5).map (fun i => (i.zero, i.size, i.bytes)) = some (some (.int .u8 0), 1, 1) := by kernel_rfl

/-- a text, in new memory or none -/
def NS (w : World) (s : List UInt8) (e : Ending) (w' : World) : Prop := e = .returned (str s) ∧ Fr w w' []

theorem fill_set (c : UInt8) (k : Nat) (h : k < 384) : (bvs (List.replicate k c) ++ List.replicate (384 - k) (Value.int .u8 0)).set k (bv c) = bvs (List.replicate (k + 1) c) ++ List.replicate (384 - (k + 1)) (Value.int .u8 0) := by
  rw [List.set_append_right _ _ (by simp [bvs_len]), bvs_len, List.length_replicate, Nat.sub_self, show 384 - k = (384 - (k + 1)) + 1 by omega, List.replicate_succ, List.set_cons_zero, List.replicate_succ', bvs_app]
  simp [bvs]

set_option maxRecDepth 10000 in
set_option maxHeartbeats 400000 in
theorem sector_any (c : UInt8) (w : World) :
    Calls Try.prog 25 #[.int .u8 (c.toNat : Int)] w (NS w (b384 c)) := by
  obtain ⟨i0, hi, hz0, hz1, hz2⟩ := info_parts infoU8
  have b1 : Hid ((384 : Int) = ((384 : Nat) : Int)) := hid rfl
  have b2 : Hid (i0.bytes * 384 ≤ 281474976710656) := hid (by rw [hz2]; decide)
  have b3 : Hid (384 ≤ maxLen) := hid (le_maxLen (by decide))
  go_enter Try.func25, Try.ntmps25
  go_wp2_with (with_reducible refine wpl_make rfl (.const (.int .i64 384)) (.const (.int .i64 384)) 59 rfl 5 i0 (.int .u8 0) Try.underlying59 hi hz0 hz1 rfl .i64 .i64 384 384 384 rfl rfl ?_ b1 b1 b2 b3; intro g w1 hg hr hbe)
  have HG := hg
  clear hg
  go_loopw [4] (fun i wr => ∃ k : Nat, k ≤ 384 ∧ i = .int .i64 k ∧ Row wr g 5 (bvs (List.replicate k c) ++ List.replicate (384 - k) (.int .u8 0)) ∧ Below w.heap.size w wr) (fun i _ => 384 - (intOf i).toNat)
  case atStart => exact ⟨0, by omega, rfl, by simpa [bvs] using hr, hbe.mono (by have := HG.out; omega)⟩
  case round =>
    obtain ⟨k, hk, rfl, hr, hbe⟩ := hrel
    by_cases hlt : k < 384
    · obtain ⟨u, hu⟩ : ∃ u, (bvs (List.replicate k c) ++ List.replicate (384 - k) (.int .u8 0))[k]? = some u := ⟨_, List.getElem?_eq_getElem (by simp [bvs_len]; omega)⟩
      have hc := hr.at_ k _ hu
      have hf := hr.frozen k
      have hst := hr.set_ k (bv c)
      rw [fill_set c k hlt] at hst
      have HS := hid hst
      have HB := hid (hbe.setCell (p := ⟨g, k, none⟩) (by have := HG.out; simp; omega) (bv c))
      have hd : decide ((k : Int) < 384) = true := by simp; omega
      have hb3 : (k : Int) < 384 := by omega
      clear hst hr hbe hu
      go_wp2_with fail
      go_roundw
      case rel => exact ⟨k + 1, by omega, by go_num, HS.out, HB.out⟩
      case measure => simp [intOf]; omega
    · obtain rfl : k = 384 := by omega
      have HR : Hid (Rd wr wr.heap.size (some ⟨g, 0, none⟩) (bvs (b384 c))) := hid (by
        have := hr.rd (B := wr.heap.size) hr.lt
        simpa [b384] using this)
      have HL : Hid (384 = (b384 c).length) := hid (b384_len c).symm
      have HB := hid hbe
      clear hr hbe
      go_wp2_with (with_reducible refine wpl_str rfl (.tmp 16) 59 9 rfl 5 Try.underlying59 Try.underlying5 Try.underlying9 (some ⟨g, 0, none⟩) 384 384 rfl wr.heap.size (b384 c) ?_ HR HL)
      go_ret
      exact ⟨rfl, HB.out.os, HB.out.tape, HB.out.output, HB.out.size, fun k hk _ => HB.out.block k hk⟩

theorem rkept_any (p : Int) (w : World) (hp : p ≤ 9223372036854775807) :
    Calls Try.prog 27 #[.int .i64 p] w fun e w' => e = .returned (.int .i64 (keptS p : Int)) ∧ w = w' := by
  by_cases h0 : 0 ≤ p
  · have hm : decide (p < 0) = false := by simp; omega
    by_cases h1 : p % 3 = 1
    · have HK := hid (kept_one p h0 h1)
      have t1 : (p % 3 == 1) = true := by simp [h1]
      have t0 : (p % 3 == 0) = false := by simp [h1]
      clear h1
      go_enter Try.func27, Try.ntmps27
      go_wp2_with fail
      all_goals (go_ret; exact ⟨retN HK.out, rfl⟩)
    · have t1 : (p % 3 == 1) = false := by simp [h1]
      by_cases h2 : p % 3 = 2
      · have t0 : (p % 3 == 0) = false := by simp [h2]
        have HK := hid (kept_two p h0 h1 h2)
        clear h1 h2
        go_enter Try.func27, Try.ntmps27
        go_wp2_with fail
        all_goals (go_ret; exact ⟨retN HK.out, rfl⟩)
      · have t0 : (p % 3 == 0) = true := by simp; omega
        have HK := hid (kept_none p (by omega))
        clear h1 h2
        go_enter Try.func27, Try.ntmps27
        go_wp2_with fail
        all_goals (go_ret; exact ⟨retN HK.out, rfl⟩)
  · have HK := hid (kept_none p (by omega))
    have hm : p < 0 := by omega
    clear h0
    go_enter Try.func27, Try.ntmps27
    go_wp2_with fail
    all_goals (go_ret; exact ⟨retN HK.out, rfl⟩)
end Go.Proofs.Ytdkgpjmehdpliaa
