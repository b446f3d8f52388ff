/-
  The walk of DiskRots.
-/
import Derived.Test.YtcnokhjehiamlaaTears
namespace Go.Proofs.Ytcnokhjehiamlaa
open Go.RowKit

def ro1 (c : List UInt8) : Sp := ⟨[sec0, sec0, sec0], [⟨0, c⟩], true, 0, 1⟩
def ro2 (c : List UInt8) : Sp := ⟨[sec0, sec0, sec0], [⟨0, c⟩, ⟨1, c⟩], true, 0, 2⟩
def ro3 (c : List UInt8) : Sp := ⟨[full c, full c, sec0], [], true, 0, 3⟩
def ro4 (c o : List UInt8) (on : Bool) : Sp := ⟨[full c, full c, sec0], [⟨2, o⟩], on, 0, 4⟩
section
variable {c o : List UInt8} (hc : c.length = 384) (ho : o.length = 384)
include hc in
theorem ro_1 : te0.write 0 (sb ⟨c.toArray⟩) = (ro1 c, 0) := Sp.write_str (S := te0) (k := 0) hc (by simp [te0]) rfl (by simp [te0]) rfl
include hc in
theorem ro_2 : (ro1 c).write 1 (sb ⟨c.toArray⟩) = (ro2 c, 0) := Sp.write_str (S := ro1 c) (k := 1) hc (by simp [ro1]) rfl (by simp [ro1]) rfl
include hc in
theorem ro_3 : (ro2 c).flush = (ro3 c, 0) := by
  rw [Sp.flush_ok rfl (by simp [ro2])]
  have e : sett (fun _ => 384) (ro2 c).way (ro2 c).secs = [takeS (full (b384 0)) c 384, takeS (full (b384 0)) c 384, sec0] := rfl
  rw [e, takeS_full _ _ (b384_len 0) hc]
  rfl
include ho in
theorem ro_4 : (ro3 c).write 2 (sb ⟨o.toArray⟩) = (ro4 c o true, 0) := Sp.write_str (S := ro3 c) (k := 2) ho (by simp [ro3]) rfl (by simp [ro3]) rfl
theorem ro_5 : (ro4 c o true).cut = (ro4 c o false, 0) := Sp.cut_ok rfl
theorem ro_bad {on : Bool} {i a m : Int} (h : i < 0 ∨ 2 < i ∨ a < 0 ∨ 384 ≤ a ∨ m < 1 ∨ 255 < m) : (ro4 c o on).rot i a m = (ro4 c o on, 1) := by
  unfold Sp.rot
  rw [if_pos]
  by_cases hi : i < 0 ∨ 2 < i
  · left
    rintro ⟨h1, h2⟩
    simp [ro4] at h2
    omega
  · right; omega
theorem ro_two {on : Bool} {a m : Int} (h : ¬ (a < 0 ∨ 384 ≤ a ∨ m < 1 ∨ 255 < m)) : (ro4 c o on).rot 2 a m = (ro4 c o on, 10) := by
  unfold Sp.rot
  rw [if_neg, if_pos]
  · simp [ro4, newest]
  · rintro (h1 | h1)
    · exact h1 ⟨by omega, by simp [ro4]⟩
    · exact h h1
theorem ro_lasts {on : Bool} (i : Int) (hi : i = 0 ∨ i = 1) : (if (ro4 c o on).is i then ((ro4 c o on).secs.getD i.toNat ⟨[], false⟩).lasts else []) = c := by
  have h : (ro4 c o on).is i := ⟨by omega, by simp [ro4]; omega⟩
  rw [if_pos h]
  rcases hi with rfl | rfl <;> rfl
theorem ro_lasts2 {on : Bool} : (if (ro4 c o on).is 2 then ((ro4 c o on).secs.getD (2 : Int).toNat ⟨[], false⟩).lasts else []) = b384 0 := by
  have h : (ro4 c o on).is 2 := ⟨by omega, by simp [ro4]⟩
  rw [if_pos h]
  rfl
end

set_option maxRecDepth 10000 in
set_option maxHeartbeats 1000000 in
theorem rots_bad (c o : UInt8) (i a m : Int) (off : Bool) (w : World) (h : i < 0 ∨ 2 < i ∨ a < 0 ∨ 384 ≤ a ∨ m < 1 ∨ 255 < m) :
    Calls Try.prog 8 #[.int .u8 (c.toNat : Int), .int .u8 (o.toNat : Int), .int .i64 i, .int .i64 a, .int .i64 m, .bool off] w (YF w) := by
  obtain ⟨lc, hlc⟩ : ∃ la, b384 c = la := ⟨_, rfl⟩
  obtain ⟨lo, hlo⟩ : ∃ lc, b384 o = lc := ⟨_, rfl⟩
  have hc : lc.length = 384 := by rw [← hlc]; exact b384_len c
  have ho : lo.length = 384 := by rw [← hlo]; exact b384_len o
  have HLC := hid hlc
  have HLO := hid hlo
  have HC := hid hc
  have HO := hid ho
  have HB := hid h
  have hq : (decide (i < 0) || decide (2 < i) || decide (a < 0) || decide (384 ≤ a) || decide (m < 1) || decide (255 < m)) = true := by
    rcases h with h | h | h | h | h | h <;> simp [h]
  clear hlc hlo hc ho h
  cases off
  all_goals go_enter Try.func8, Try.ntmps8
  all_goals go_wp2_with (first
    | (go_at_call 9; refine (awake_calls _).mono ?_; rintro e w1 ⟨rfl, hf0⟩)
    | (go_at_call 10; refine (dk_new 3 _ (by omega) (by omega)).mono ?_; rintro e w1 ⟨p, gs, rfl, h1⟩; rw [te_0] at h1; unfold dptr)
    | (go_at_call_of 25 (Value.int IntKind.u8 (c.toNat : Int)); refine (dk_sector_l (by with_reducible assumption) c HLC.out).mono ?_; rintro e w2 ⟨rfl, h2⟩)
    | (go_at_call_of 25 (Value.int IntKind.u8 (o.toNat : Int)); refine (dk_sector_l (by with_reducible assumption) o HLO.out).mono ?_; rintro e w2 ⟨rfl, h2⟩)
    | (go_at_call_of 24 (Value.int IntKind.i64 0); refine (dk_write (S := te0) (by with_reducible assumption) (show 0 ≤ 1048576 by decide) 0 _ (ro_1 HC.out)).mono ?_; rintro e w2 ⟨rfl, h2⟩)
    | (go_at_call_of 24 (Value.int IntKind.i64 1); refine (dk_write (S := ro1 lc) (by with_reducible assumption) (show 1 ≤ 1048576 by decide) 1 _ (ro_2 HC.out)).mono ?_; rintro e w2 ⟨rfl, h2⟩)
    | (go_at_call_of 24 (Value.int IntKind.i64 2); refine (dk_write (S := ro3 lc) (by with_reducible assumption) (show 3 ≤ 1048576 by decide) 2 _ (ro_4 HO.out)).mono ?_; rintro e w2 ⟨rfl, h2⟩)
    | (go_at_call 26; refine (dk_flush (S := ro2 lc) (by with_reducible assumption) (show 2 ≤ 1048576 by decide) (ro_3 HC.out)).mono ?_; rintro e w2 ⟨rfl, h2⟩)
    | (go_at_call 22; refine (dk_cut (S := ro4 lc lo true) (by with_reducible assumption) ro_5).mono ?_; rintro e w2 ⟨rfl, h2⟩)
    | (go_at_call 30; refine (dk_rot (S := ro4 lc lo _) (by with_reducible assumption) i a m (ro_bad HB.out)).mono ?_; rintro e w2 ⟨rfl, h2⟩)
    | (go_at_call_of 21 (Value.int IntKind.i64 0); refine (dk_lasts (S := ro4 lc lo _) (by with_reducible assumption) 0 (ro_lasts 0 (.inl rfl))).mono ?_; rintro e w2 ⟨rfl, rfl⟩)
    | (go_at_call_of 21 (Value.int IntKind.i64 1); refine (dk_lasts (S := ro4 lc lo _) (by with_reducible assumption) 1 (ro_lasts 1 (.inr rfl))).mono ?_; rintro e w2 ⟨rfl, rfl⟩))
  all_goals (go_ret; exact ⟨rfl, hf0.trans (Dk.frame (by with_reducible assumption)) (by simp)⟩)
set_option maxRecDepth 10000 in
set_option maxHeartbeats 1000000 in
theorem rots_two (c o : UInt8) (a m : Int) (off : Bool) (w : World) (h : ¬ (a < 0 ∨ 384 ≤ a ∨ m < 1 ∨ 255 < m)) :
    Calls Try.prog 8 #[.int .u8 (c.toNat : Int), .int .u8 (o.toNat : Int), .int .i64 2, .int .i64 a, .int .i64 m, .bool off] w (YF w) := by
  obtain ⟨lc, hlc⟩ : ∃ la, b384 c = la := ⟨_, rfl⟩
  obtain ⟨lo, hlo⟩ : ∃ lc, b384 o = lc := ⟨_, rfl⟩
  have hc : lc.length = 384 := by rw [← hlc]; exact b384_len c
  have ho : lo.length = 384 := by rw [← hlo]; exact b384_len o
  have HLC := hid hlc
  have HLO := hid hlo
  have HC := hid hc
  have HO := hid ho
  have HB := hid h
  have q1 : decide (a < 0) = false := by simp; omega
  have q2 : decide (384 ≤ a) = false := by simp; omega
  have q3 : decide (m < 1) = false := by simp; omega
  have q4 : decide (255 < m) = false := by simp; omega
  obtain ⟨lz, hlz⟩ : ∃ la, b384 0 = la := ⟨_, rfl⟩
  have HLZ := hid hlz
  clear hlz
  clear hlc hlo hc ho h
  cases off
  all_goals go_enter Try.func8, Try.ntmps8
  all_goals go_wp2_with (first
    | (go_at_call 9; refine (awake_calls _).mono ?_; rintro e w1 ⟨rfl, hf0⟩)
    | (go_at_call 10; refine (dk_new 3 _ (by omega) (by omega)).mono ?_; rintro e w1 ⟨p, gs, rfl, h1⟩; rw [te_0] at h1; unfold dptr)
    | (go_at_call_of 25 (Value.int IntKind.u8 (c.toNat : Int)); refine (dk_sector_l (by with_reducible assumption) c HLC.out).mono ?_; rintro e w2 ⟨rfl, h2⟩)
    | (go_at_call_of 25 (Value.int IntKind.u8 (o.toNat : Int)); refine (dk_sector_l (by with_reducible assumption) o HLO.out).mono ?_; rintro e w2 ⟨rfl, h2⟩)
    | (go_at_call_of 24 (Value.int IntKind.i64 0); refine (dk_write (S := te0) (by with_reducible assumption) (show 0 ≤ 1048576 by decide) 0 _ (ro_1 HC.out)).mono ?_; rintro e w2 ⟨rfl, h2⟩)
    | (go_at_call_of 24 (Value.int IntKind.i64 1); refine (dk_write (S := ro1 lc) (by with_reducible assumption) (show 1 ≤ 1048576 by decide) 1 _ (ro_2 HC.out)).mono ?_; rintro e w2 ⟨rfl, h2⟩)
    | (go_at_call_of 24 (Value.int IntKind.i64 2); refine (dk_write (S := ro3 lc) (by with_reducible assumption) (show 3 ≤ 1048576 by decide) 2 _ (ro_4 HO.out)).mono ?_; rintro e w2 ⟨rfl, h2⟩)
    | (go_at_call 26; refine (dk_flush (S := ro2 lc) (by with_reducible assumption) (show 2 ≤ 1048576 by decide) (ro_3 HC.out)).mono ?_; rintro e w2 ⟨rfl, h2⟩)
    | (go_at_call 22; refine (dk_cut (S := ro4 lc lo true) (by with_reducible assumption) ro_5).mono ?_; rintro e w2 ⟨rfl, h2⟩)
    | (go_at_call 30; refine (dk_rot (S := ro4 lc lo _) (by with_reducible assumption) 2 a m (ro_two HB.out)).mono ?_; rintro e w2 ⟨rfl, h2⟩)
    | (go_at_call_of 21 (Value.int IntKind.i64 2); refine (dk_lasts (S := ro4 lc lo _) (by with_reducible assumption) 2 (ro_lasts2.trans HLZ.out)).mono ?_; rintro e w2 ⟨rfl, rfl⟩)
    | (go_at_call_of 25 (Value.int IntKind.u8 0); refine (dk_sector_l (by with_reducible assumption) 0 HLZ.out).mono ?_; rintro e w2 ⟨rfl, h2⟩)
    | (go_at_call 15; refine (dk_pending (S := ro4 lc lo _) (by with_reducible assumption)).mono ?_; rintro e w2 ⟨rfl, rfl⟩))
  all_goals (go_ret; exact ⟨rfl, hf0.trans (Dk.frame (by with_reducible assumption)) (by simp)⟩)
end Go.Proofs.Ytcnokhjehiamlaa
