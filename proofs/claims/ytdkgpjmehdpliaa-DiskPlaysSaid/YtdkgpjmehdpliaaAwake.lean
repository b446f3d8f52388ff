/-
  The walk of awake: the chapter's last example.
-/
import Derived.Test.YtdkgpjmehdpliaaKit
namespace Go.Proofs.Ytdkgpjmehdpliaa
open Go.RowKit

theorem sb_str (l : List UInt8) : sb ⟨l.toArray⟩ = l := by simp [sb]
theorem Sp.is_zero (S : Sp) (h : 0 < S.secs.length) : S.is 0 := ⟨by omega, by omega⟩
def aw1 : Sp := ⟨[sec0, sec0], [⟨0, b384 7⟩], true, 0, 1⟩
def aw2 : Sp := ⟨[sec0, sec0], [⟨0, b384 7⟩], false, 0, 1⟩
def aw3 : Sp := ⟨[takeS sec0 (b384 7) 10, sec0], [], true, 0, 1⟩
theorem aw_write : (Sp.mk0 2).write 0 (sb ⟨(b384 7).toArray⟩) = (aw1, 0) := by
  rw [sb_str]
  exact Sp.write_ok (S := Sp.mk0 2) (k := 0) (s := b384 7) (by show 0 < (List.replicate 2 sec0).length; simp) (b384_len 7) rfl (by show (0 : Nat) ≠ 1; omega)
theorem aw_cut : aw1.cut = (aw2, 0) := rfl
theorem aw_pick : pickOf [32] 0 = 10 := by decide
theorem aw_start : aw2.start [32] = (aw3, 0) := by
  show (if (false : Bool) = true then (aw2, (10 : Int)) else ({ aw2 with secs := sett (pickOf [32]) aw2.way aw2.secs, way := [], on := true }, 0)) = _
  rw [if_neg (by simp)]
  have e : sett (pickOf [32]) aw2.way aw2.secs = [takeS sec0 (b384 7) 10, sec0] := by
    show [takeS sec0 (b384 7) (pickOf [32] 0), sec0] = _
    rw [aw_pick]
  rw [e]
  rfl
theorem aw_read : aw3.read 0 = (mixS (b384 7) (b384 0) 10, 0) := by
  unfold Sp.read
  rw [if_neg (fun h => h (Sp.is_zero aw3 (by simp [aw3]))), if_neg (by simp [aw3])]
  rfl
theorem aw_marked : (decide (aw3.is 0) && (aw3.secs.getD (0 : Int).toNat ⟨[], false⟩).marked) = true := by
  rw [decide_eq_true (Sp.is_zero aw3 (by simp [aw3]))]
  rfl

/-- true, and nothing that was there has turned -/
def YF (w : World) (e : Ending) (w' : World) : Prop := e = .returned (.bool true) ∧ Fr w w' []
theorem Dk.frame {w w' : World} {p gs : Nat} {S : Sp} (h : Dk w.heap.size w w' p gs S) : Fr w w' [] := by
  have hb := h.below
  exact ⟨hb.os, hb.tape, hb.output, hb.size, fun k hk _ => hb.block k hk⟩

set_option maxRecDepth 10000 in
set_option maxHeartbeats 1000000 in
theorem awake_calls (w : World) : Calls Try.prog 9 #[] w (YF w) := by
  go_enter Try.func9, Try.ntmps9
  go_wp2_with (first
    | (go_at_call 10; refine (dk_new 2 _ (by omega) (by omega)).mono ?_; rintro e w1 ⟨p, gs, rfl, h1⟩; unfold dptr)
    | (go_at_call_of 25 (Value.int IntKind.u8 7); refine (dk_sector (by with_reducible assumption) 7).mono ?_; rintro e w2 ⟨rfl, h2⟩)
    | (go_at_call_of 25 (Value.int IntKind.u8 0); refine (dk_sector (by with_reducible assumption) 0).mono ?_; rintro e w2 ⟨rfl, h2⟩)
    | (go_at_call 24; refine (dk_write (S := Sp.mk0 2) (by with_reducible assumption) (by decide) 0 _ aw_write).mono ?_; rintro e w2 ⟨rfl, h2⟩)
    | (go_at_call 22; refine (dk_cut (S := aw1) (by with_reducible assumption) aw_cut).mono ?_; rintro e w2 ⟨rfl, h2⟩)
    | (go_at_call 23; refine (dk_start_new (S := aw2) (by with_reducible assumption) (by decide) [32] (by decide) (by decide) aw_start 1 rfl).mono ?_; rintro e w2 ⟨rfl, h2⟩)
    | (go_at_call 17; refine (dk_read (S := aw3) (by with_reducible assumption) (by decide) 0 aw_read).mono ?_; rintro e w2 ⟨rfl, h2⟩)
    | (go_at_call 28; refine (dk_mix (by with_reducible assumption) (b384 7) (b384 0) 10 (b384_len 7) (b384_len 0) (by decide)).mono ?_; rintro e w2 ⟨rfl, h2⟩)
    | (go_at_call 19; refine (dk_marked (S := aw3) (by with_reducible assumption) 0 aw_marked).mono ?_; rintro e w2 ⟨rfl, rfl⟩))
  go_ret
  exact ⟨rfl, Dk.frame (by with_reducible assumption)⟩
end Go.Proofs.Ytdkgpjmehdpliaa
