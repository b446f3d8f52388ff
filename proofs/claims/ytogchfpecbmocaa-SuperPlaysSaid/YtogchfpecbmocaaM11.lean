/-
  The walk of DiskRots.
-/
import Derived.Test.YtogchfpecbmocaaM10
namespace Go.Proofs.Ytogchfpecbmocaa
open Go.RowKit

def ro1 (c : List UInt8) : Sp := ⟨[sec0, sec0, sec0], [⟨0, c⟩], true, 0, 1⟩
def ro2 (c : List UInt8) : Sp := ⟨[sec0, sec0, sec0], [⟨0, c⟩, ⟨1, c⟩], true, 0, 2⟩
def ro3 (c : List UInt8) : Sp := ⟨[full c, full c, sec0], [], true, 0, 3⟩
def ro4 (c o : List UInt8) (on : Bool) : Sp := ⟨[full c, full c, sec0], [⟨2, o⟩], on, 0, 4⟩
section
variable {c o : List UInt8} (hc : c.length = 384) (ho : o.length = 384)
include hc in
theorem ro_1 : te0.write 0 (sb ⟨c.toArray⟩) = (ro1 c, 0) := Sp.write_str (S := te0) (k := 0) hc (by simp [te0]) rfl (by simp [te0]) rfl
include hc in
theorem ro_2 : (ro1 c).write 1 (sb ⟨c.toArray⟩) = (ro2 c, 0) := Sp.write_str (S := ro1 c) (k := 1) hc (by simp [ro1]) rfl (by simp [ro1]) rfl
include hc in
theorem ro_3 : (ro2 c).flush = (ro3 c, 0) := by
  rw [Sp.flush_ok rfl (by simp [ro2])]
  have e : sett (fun _ => 384) (ro2 c).way (ro2 c).secs = [takeD (full (b384 0)) c 384, takeD (full (b384 0)) c 384, sec0] := rfl
  rw [e, takeS_full _ _ (b384_len 0) hc]
  rfl
include ho in
theorem ro_4 : (ro3 c).write 2 (sb ⟨o.toArray⟩) = (ro4 c o true, 0) := Sp.write_str (S := ro3 c) (k := 2) ho (by simp [ro3]) rfl (by simp [ro3]) rfl
theorem ro_5 : (ro4 c o true).cut = (ro4 c o false, 0) := Sp.cut_ok rfl
theorem ro_bad {on : Bool} {i a m : Int} (h : i < 0 ∨ 2 < i ∨ a < 0 ∨ 384 ≤ a ∨ m < 1 ∨ 255 < m) : (ro4 c o on).rot i a m = (ro4 c o on, 1) := by
  unfold Sp.rot
  rw [if_pos]
  by_cases hi : i < 0 ∨ 2 < i
  · left
    rintro ⟨h1, h2⟩
    simp [ro4] at h2
    omega
  · right; omega
theorem ro_two {on : Bool} {a m : Int} (h : ¬ (a < 0 ∨ 384 ≤ a ∨ m < 1 ∨ 255 < m)) : (ro4 c o on).rot 2 a m = (ro4 c o on, 10) := by
  unfold Sp.rot
  rw [if_neg, if_pos]
  · simp [ro4, newest]
  · rintro (h1 | h1)
    · exact h1 ⟨by omega, by simp [ro4]⟩
    · exact h h1
theorem ro_lasts {on : Bool} (i : Int) (hi : i = 0 ∨ i = 1) : (if (ro4 c o on).is i then ((ro4 c o on).secs.getD i.toNat ⟨[], false⟩).lasts else []) = c := by
  have h : (ro4 c o on).is i := ⟨by omega, by simp [ro4]; omega⟩
  rw [if_pos h]
  rcases hi with rfl | rfl <;> rfl
theorem ro_lasts2 {on : Bool} : (if (ro4 c o on).is 2 then ((ro4 c o on).secs.getD (2 : Int).toNat ⟨[], false⟩).lasts else []) = b384 0 := by
  have h : (ro4 c o on).is 2 := ⟨by omega, by simp [ro4]⟩
  rw [if_pos h]
  rfl
end

end Go.Proofs.Ytogchfpecbmocaa
