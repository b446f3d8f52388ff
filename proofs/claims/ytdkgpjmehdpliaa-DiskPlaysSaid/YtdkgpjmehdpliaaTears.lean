/-
  The walk of DiskTears.
-/
import Derived.Test.YtdkgpjmehdpliaaAwake
namespace Go.Proofs.Ytdkgpjmehdpliaa
open Go.RowKit

/-- a sector that was wholly written -/
def full (l : List UInt8) : Sec := ⟨l, false⟩
theorem takeS_full (k l : List UInt8) (hk : k.length = 384) (hl : l.length = 384) : takeS (full k) l 384 = full l := by
  unfold takeS full
  rw [List.take_of_length_le (Nat.le_of_eq hl), List.drop_eq_nil_of_le (Nat.le_of_eq hk)]
  simp
theorem Sp.flush_ok {S : Sp} (ho : S.on = true) (hl : S.left ≠ 1) : S.flush = ({ S with left := S.left - 1, count := S.count + 1, secs := sett (fun _ => 384) S.way S.secs, way := [] }, 0) := by
  unfold Sp.flush
  rw [Sp.goes_more ho hl, if_pos rfl]
theorem Sp.start_ok {S : Sp} (ho : S.on = false) (picks : List Int) : S.start picks = ({ S with secs := sett (pickOf picks) S.way S.secs, way := [], on := true }, 0) := by
  unfold Sp.start
  rw [if_neg (by simp [ho])]
theorem Sp.cut_ok {S : Sp} (ho : S.on = true) : S.cut = ({ S with on := false, left := 0 }, 0) := by
  unfold Sp.cut
  rw [if_neg (by simp [ho])]
theorem Sp.write_str {S S' : Sp} {k : Nat} {l : List UInt8} (hl : l.length = 384) (hk : k < S.secs.length) (ho : S.on = true) (hl1 : S.left ≠ 1) (h : { S with left := S.left - 1, count := S.count + 1, way := S.way ++ [⟨k, l⟩] } = S') :
    S.write k (sb ⟨l.toArray⟩) = (S', 0) := by
  rw [sb_str, Sp.write_ok hk hl ho hl1, h]

def te0 : Sp := ⟨[sec0, sec0, sec0], [], true, 0, 0⟩
def te1 (a : List UInt8) : Sp := ⟨[sec0, sec0, sec0], [⟨1, a⟩], true, 0, 1⟩
def te2 (a : List UInt8) : Sp := ⟨[sec0, full a, sec0], [], true, 0, 2⟩
def te3 (a c : List UInt8) : Sp := ⟨[sec0, full a, sec0], [⟨2, c⟩], true, 0, 3⟩
def te4 (a c : List UInt8) : Sp := ⟨[sec0, full a, sec0], [⟨2, c⟩, ⟨1, c⟩], true, 0, 4⟩
def te5 (a c : List UInt8) : Sp := ⟨[sec0, full a, sec0], [⟨2, c⟩, ⟨1, c⟩], false, 0, 4⟩
def te6 (a c : List UInt8) (m n : Nat) : Sp := ⟨[sec0, takeS (full a) c n, takeS sec0 c m], [], true, 0, 4⟩
theorem te_0 : Sp.mk0 3 = te0 := rfl
section
variable {a c : List UInt8} (ha : a.length = 384) (hc : c.length = 384)
include ha in
theorem te_1 : te0.write 1 (sb ⟨a.toArray⟩) = (te1 a, 0) := Sp.write_str (S := te0) (k := 1) ha (by simp [te0]) rfl (by simp [te0]) rfl
include ha in
theorem te_2 : (te1 a).flush = (te2 a, 0) := by
  rw [Sp.flush_ok rfl (by simp [te1])]
  have e : sett (fun _ => 384) (te1 a).way (te1 a).secs = [sec0, takeS (full (b384 0)) a 384, sec0] := rfl
  rw [e, takeS_full _ _ (b384_len 0) ha]
  rfl
include hc in
theorem te_3 : (te2 a).write 2 (sb ⟨c.toArray⟩) = (te3 a c, 0) := Sp.write_str (S := te2 a) (k := 2) hc (by simp [te2]) rfl (by simp [te2]) rfl
include hc in
theorem te_4 : (te3 a c).write 1 (sb ⟨c.toArray⟩) = (te4 a c, 0) := Sp.write_str (S := te3 a c) (k := 1) hc (by simp [te3]) rfl (by simp [te3]) rfl
theorem te_5 : (te4 a c).cut = (te5 a c, 0) := Sp.cut_ok rfl
theorem te_6 (o p : Int) : (te5 a c).start [o, p] = (te6 a c (keptS o) (keptS p), 0) := Sp.start_ok rfl _
theorem te_read (m n : Nat) : (te6 a c m n).read 1 = (mixS c a n, 0) := by
  unfold Sp.read
  rw [if_neg (fun h => h ⟨by omega, by simp [te6]⟩), if_neg (by simp [te6])]
  rfl
theorem te_marked (m n : Nat) : (decide ((te6 a c m n).is 1) && ((te6 a c m n).secs.getD (1 : Int).toNat ⟨[], false⟩).marked) = decide (0 < n ∧ n < 384) := by
  rw [decide_eq_true (show (te6 a c m n).is 1 from ⟨by omega, by simp [te6]⟩)]
  show (true && (takeS (full a) c n).marked) = _
  unfold takeS full
  by_cases h : n = 0
  · simp [h]
  · simp [h]
    omega
end

set_option maxRecDepth 10000 in
set_option maxHeartbeats 1000000 in
theorem tears_calls (a c : UInt8) (pick other : Int) (w : World) (hp : pick ≤ 9223372036854775807) (ho : other ≤ 9223372036854775807) :
    Calls Try.prog 5 #[.int .u8 (a.toNat : Int), .int .u8 (c.toNat : Int), .int .i64 pick, .int .i64 other] w (YF w) := by
  have hk := keptS_le pick
  obtain ⟨la, hla⟩ : ∃ la, b384 a = la := ⟨_, rfl⟩
  obtain ⟨lc, hlc⟩ : ∃ lc, b384 c = lc := ⟨_, rfl⟩
  have ha : la.length = 384 := by rw [← hla]; exact b384_len a
  have hc : lc.length = 384 := by rw [← hlc]; exact b384_len c
  have HLA := hid hla
  have HLC := hid hlc
  have HA := hid ha
  have HC := hid hc
  clear hla hlc ha hc
  have HM := hid (te_marked (a := la) (c := lc) (keptS other) (keptS pick))
  obtain ⟨b, hb⟩ : ∃ b, b = decide (0 < keptS pick ∧ keptS pick < 384) := ⟨_, rfl⟩
  rw [← hb] at HM
  have hb1 : (decide (0 < ((keptS pick : Nat) : Int)) && decide (((keptS pick : Nat) : Int) < 384)) = b := by
    rw [hb]
    by_cases h1 : 0 < keptS pick <;> by_cases h2 : keptS pick < 384 <;> simp [h1, h2] <;> omega
  have HB := hid hb1
  clear hb hb1
  have hal : ∀ x ∈ [other, pick], x ≤ 9223372036854775807 := by simp; exact ⟨ho, hp⟩
  have HAL := hid hal
  clear hal
  go_enter Try.func5, Try.ntmps5
  go_wp2_with (first
    | (go_at_call 9; refine (awake_calls _).mono ?_; rintro e w1 ⟨rfl, hf0⟩)
    | (go_at_call 10; refine (dk_new 3 _ (by omega) (by omega)).mono ?_; rintro e w1 ⟨p, gs, rfl, h1⟩; rw [te_0] at h1;  unfold dptr)
    | (go_at_call_of 25 (Value.int IntKind.u8 (a.toNat : Int)); refine (dk_sector_l (by with_reducible assumption) a HLA.out).mono ?_; rintro e w2 ⟨rfl, h2⟩)
    | (go_at_call_of 25 (Value.int IntKind.u8 (c.toNat : Int)); refine (dk_sector_l (by with_reducible assumption) c HLC.out).mono ?_; rintro e w2 ⟨rfl, h2⟩)
    | (go_at_call_of 24 (Value.string ⟨la.toArray⟩); refine (dk_write (S := te0) (by with_reducible assumption) (show 0 ≤ 1048576 by decide) 1 _ (te_1 HA.out)).mono ?_; rintro e w2 ⟨rfl, h2⟩)
    | (go_at_call_of 24 (Value.int IntKind.i64 2); refine (dk_write (S := te2 la) (by with_reducible assumption) (show 2 ≤ 1048576 by decide) 2 _ (te_3 HC.out)).mono ?_; rintro e w2 ⟨rfl, h2⟩)
    | (go_at_call 24; refine (dk_write (S := te3 la lc) (by with_reducible assumption) (show 3 ≤ 1048576 by decide) 1 _ (te_4 HC.out)).mono ?_; rintro e w2 ⟨rfl, h2⟩)
    | (go_at_call 26; refine (dk_flush (S := te1 la) (by with_reducible assumption) (show 1 ≤ 1048576 by decide) (te_2 HA.out)).mono ?_; rintro e w2 ⟨rfl, h2⟩)
    | (go_at_call 22; refine (dk_cut (S := te4 la lc) (by with_reducible assumption) (te_5)).mono ?_; rintro e w2 ⟨rfl, h2⟩)
    | (go_at_call 23; refine (dk_start_new (S := te5 la lc) (by with_reducible assumption) (show 4 ≤ 1048576 by decide) [other, pick] HAL.out (show 2 ≤ 9223372036854775807 by decide) (te_6 other pick) 2 rfl).mono ?_; rintro e w2 ⟨rfl, h2⟩)
    | (go_at_call 17; refine (dk_read (S := te6 la lc (keptS other) (keptS pick)) (by with_reducible assumption) (show 4 ≤ 1048576 by decide) 1 (te_read (keptS other) (keptS pick))).mono ?_; rintro e w2 ⟨rfl, h2⟩)
    | (go_at_call 27; refine (rkept_any pick _ hp).mono ?_; rintro e w2 ⟨rfl, rfl⟩)
    | (go_at_call 28; refine (dk_mix (by with_reducible assumption) lc la (keptS pick) HC.out HA.out hk).mono ?_; rintro e w2 ⟨rfl, h2⟩)
    | (go_at_call 19; refine (dk_marked (S := te6 la lc (keptS other) (keptS pick)) (by with_reducible assumption) 1 HM.out).mono ?_; rintro e w2 ⟨rfl, rfl⟩))
  · go_ret
    have h0 : 0 < keptS pick := by assumption
    refine ⟨?_, hf0.trans (Dk.frame (by with_reducible assumption)) (by simp)⟩
    have hb := HB.out
    rw [← hb]
    simp [h0]
  · go_ret
    have h0 : keptS pick = 0 := by omega
    refine ⟨?_, hf0.trans (Dk.frame (by with_reducible assumption)) (by simp)⟩
    have hb := HB.out
    rw [← hb]
    simp [h0]
end Go.Proofs.Ytdkgpjmehdpliaa
