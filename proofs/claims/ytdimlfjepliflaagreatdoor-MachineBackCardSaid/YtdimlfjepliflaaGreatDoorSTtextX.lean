/-
  The walks of TakeText and of the answer held against it.
-/
import Derived.Test.YtdimlfjepliflaaGreatDoorD11
import Derived.Test.YtdimlfjepliflaaGreatDoorLiftX
import Derived.Test.YtdimlfjepliflaaGreatDoorEvX
import Derived.Test.YtdimlfjepliflaaGreatDoorLgX
import Derived.Test.YtdimlfjepliflaaGreatDoorHubX
namespace Go.Proofs.YtdimlfjepliflaaGreatDoor
open Go.RowKit
set_option maxRecDepth 10000

/-- a text, a place and an error's number -/
def TE (w : World) (r : List UInt8 × Int × Int) (e : Ending) (w' : World) : Prop :=
  e = .returned (.tuple #[.string ⟨r.1.toArray⟩, .int .i64 r.2.1, .int .i64 r.2.2]) ∧ Below w.heap.size w w'
/-- what TakeText answers, the length being taken -/
def ttN (bs : List UInt8) (a n : Nat) : List UInt8 × Int × Int :=
  if bs.length < a + 2 + n then ([], 0, 3) else ((bs.drop (a + 2)).take n, (a : Int) + 2 + n, 0)
/-- what TakeText answers -/
def ttS (bs : List UInt8) (at_8 most : Int) : List UInt8 × Int × Int :=
  if (takeS bs at_8 2).2 ≠ 0 then ([], 0, (takeS bs at_8 2).2) else if most < (takeS bs at_8 2).1 then ([], 0, 5) else ttN bs at_8.toNat (takeS bs at_8 2).1
set_option maxHeartbeats 400000 in
theorem tt_err (A : Option Addr) (bs : List UInt8) (l c B : Nat) (at_8 most : Int) (w : World) (hr : Rd w B A (bvs bs)) (hll : l = bs.length) (hl : l ≤ 140737488355328) (hlc : l ≤ c) (hB : B ≤ w.heap.size)
    (m : Nat) (x : Int) (h : takeS bs at_8 2 = (m, x)) (hx : (x != 0) = true) :
    Calls Tryz.prog 137 #[.slice A l c, .int .i64 at_8, .int .i64 most] w (TE w ([], 0, x)) := by
  have T := take_any A bs l c B at_8 2 w hr hll hl hlc hB
  rw [h] at T
  have HT := hid T
  clear T h hll
  go_enter Tryz.func137, Tryz.ntmps137
  go_wp2_with (go_at_call 97; refine HT.out.mono ?_; rintro e w1 ⟨rfl, hbe⟩)
  go_ret3
  exact ⟨rfl, hbe⟩
set_option maxHeartbeats 400000 in
theorem tt_long (A : Option Addr) (bs : List UInt8) (l c B : Nat) (at_8 most : Int) (w : World) (hr : Rd w B A (bvs bs)) (hll : l = bs.length) (hl : l ≤ 140737488355328) (hlc : l ≤ c) (hB : B ≤ w.heap.size)
    (m : Nat) (h : takeS bs at_8 2 = (m, 0)) (hx : most < m) (hm : m ≤ 65535) :
    Calls Tryz.prog 137 #[.slice A l c, .int .i64 at_8, .int .i64 most] w (TE w ([], 0, 5)) := by
  have T := take_any A bs l c B at_8 2 w hr hll hl hlc hB
  rw [h] at T
  have HT := hid T
  clear T h hll
  go_enter Tryz.func137, Tryz.ntmps137
  go_wp2_with (go_at_call 97; refine HT.out.mono ?_; rintro e w1 ⟨rfl, hbe⟩)
  go_ret3
  exact ⟨rfl, hbe⟩
set_option maxHeartbeats 400000 in
theorem tt_short (A : Option Addr) (bs : List UInt8) (l c B a : Nat) (most : Int) (w : World) (hr : Rd w B A (bvs bs)) (hll : l = bs.length) (hl : l ≤ 140737488355328) (hlc : l ≤ c) (hB : B ≤ w.heap.size)
    (m : Nat) (h : takeS bs a 2 = (m, 0)) (hx : m ≤ most) (hm : m ≤ 65535) (ha : a ≤ 140737488355328) (hs : l < a + 2 + m) :
    Calls Tryz.prog 137 #[.slice A l c, .int .i64 a, .int .i64 most] w (TE w ([], 0, 3)) := by
  have T := take_any A bs l c B a 2 w hr hll hl hlc hB
  rw [h] at T
  have HT := hid T
  clear T h hll
  have HS : Hid (decide ((l : Int) - m < (a : Int) + 2) = true) := hid (by simp; omega)
  go_enter Tryz.func137, Tryz.ntmps137
  go_wp2_with (first
    | (go_at_call 97; refine HT.out.mono ?_; rintro e w1 ⟨rfl, hbe⟩)
    | (go_at_call 136; refine (lacks_any A l c ((a : Int) + 2) m _ (by omega) (by omega) hl).mono ?_; rw [HS.out]; rintro e w' ⟨rfl, rfl⟩))
  go_ret3
  exact ⟨rfl, hbe⟩
set_option maxHeartbeats 400000 in
theorem tt_ok (A : Option Addr) (bs : List UInt8) (l c B a : Nat) (most : Int) (w : World) (hr : Rd w B A (bvs bs)) (hll : l = bs.length) (hl : l ≤ 140737488355328) (hlc : l ≤ c) (hB : B ≤ w.heap.size)
    (m : Nat) (h : takeS bs a 2 = (m, 0)) (hx : m ≤ most) (hm : m ≤ 65535) (ha : a ≤ 140737488355328) (hs : a + 2 + m ≤ l) :
    Calls Tryz.prog 137 #[.slice A l c, .int .i64 a, .int .i64 most] w (TE w ((bs.drop (a + 2)).take m, (a : Int) + 2 + m, 0)) := by
  have T := take_any A bs l c B a 2 w hr hll hl hlc hB
  rw [h] at T
  have HT := hid T
  have hcut := (hr.cut (k := a + 2) (cap := c) (by rw [bvs_len]; omega) (by rw [bvs_len]; omega)).take m
  have hsub : ((bvs bs).drop (a + 2)).take m = bvs ((bs.drop (a + 2)).take m) := by simp [bvs]
  rw [hsub] at hcut
  have hlen : m = ((bs.drop (a + 2)).take m).length := by simp; omega
  obtain ⟨g0, o, rfl, hg0, hz⟩ := Rd.at_ hr (j := 0) (by rw [bvs_len]; omega)
  clear hz
  have hlen' := hid hlen
  generalize hxs : (bs.drop (a + 2)).take m = xs at *
  have HC := hid hcut
  clear T h hll hcut hsub hxs hlen
  have HS : Hid (decide ((l : Int) - m < (a : Int) + 2) = false) := hid (by simp; omega)
  have q1 : (a : Int) + 2 ≤ (a : Int) + 2 + m := by omega
  have q2 : (a : Int) + 2 + m ≤ c := by omega
  go_enter Tryz.func137, Tryz.ntmps137
  go_wp2_with (first
    | (go_at_call 97; refine HT.out.mono ?_; rintro e w1 ⟨rfl, hbe⟩)
    | (go_at_call 136; refine (lacks_any (some ⟨g0, o, none⟩) l c ((a : Int) + 2) m _ (by omega) (by omega) hl).mono ?_; rw [HS.out]; rintro e w' ⟨rfl, rfl⟩)
    | (with_reducible refine wpl_str rfl (.tmp 38) 93 9 rfl 5 Tryz.underlying93 Tryz.underlying5 Tryz.underlying9 _ _ _ rfl B xs ?_ ?_ ?_))
  · go_ret3
    exact ⟨rfl, hbe⟩
  · go_ret3
    exact ⟨rfl, hbe⟩
  · have h := HC.out
    rw [if_pos (by omega)] at h
    exact hid (h.below hbe hB)
  · have h := HC.out
    rw [if_neg (by omega)] at h
    exact hid ((by simpa [add_lit] using h : Rd w B (some ⟨g0, o + (a + 2), none⟩) (bvs xs)).below hbe hB)
  · exact hid (by rw [← hlen'.out]; omega)
theorem takeS_two (bs : List UInt8) (at_8 : Int) : (takeS bs at_8 2).1 ≤ 65535 ∧ ((takeS bs at_8 2).2 = 0 → 0 ≤ at_8 ∧ at_8 + 2 ≤ bs.length) := by
  unfold takeS
  split
  · exact ⟨by simp, by intro h; simp at h⟩
  · split
    · exact ⟨by simp, by intro h; simp at h⟩
    · rename_i h1 h2
      refine ⟨?_, fun _ => by omega⟩
      have h := leV_lt ((bs.drop at_8.toNat).take 2)
      have h3 : 2 ^ (8 * ((bs.drop at_8.toNat).take 2).length) ≤ 2 ^ 16 := Nat.pow_le_pow_right (by omega) (by have := List.length_take_le 2 (bs.drop at_8.toNat); omega)
      show leV ((bs.drop at_8.toNat).take (2 : Int).toNat) ≤ 65535
      have h4 : (2 : Int).toNat = 2 := rfl
      rw [h4]
      omega
theorem tt_any (A : Option Addr) (bs : List UInt8) (l c B : Nat) (at_8 most : Int) (w : World) (hr : Rd w B A (bvs bs)) (hll : l = bs.length) (hl : l ≤ 140737488355328) (hlc : l ≤ c) (hB : B ≤ w.heap.size) :
    Calls Tryz.prog 137 #[.slice A l c, .int .i64 at_8, .int .i64 most] w (TE w (ttS bs at_8 most)) := by
  obtain ⟨h1, h2⟩ := takeS_two bs at_8
  unfold ttS
  rcases ht : takeS bs at_8 2 with ⟨m, x⟩
  rw [ht] at h1 h2
  dsimp only at h1 h2 ⊢
  by_cases hx : x = 0
  · subst hx
    rw [if_neg (by simp)]
    obtain ⟨h3, h4⟩ := h2 rfl
    obtain ⟨a, rfl⟩ := Int.eq_ofNat_of_zero_le h3
    by_cases hm : most < m
    · rw [if_pos hm]
      exact tt_long A bs l c B a most w hr hll hl hlc hB m ht hm h1
    · rw [if_neg hm]
      unfold ttN
      simp only [Int.toNat_natCast]
      by_cases hs : bs.length < a + 2 + m
      · rw [if_pos hs]
        exact tt_short A bs l c B a most w hr hll hl hlc hB m ht (by omega) h1 (by omega) (by omega)
      · rw [if_neg hs]
        exact tt_ok A bs l c B a most w hr hll hl hlc hB m ht (by omega) h1 (by omega) (by omega)
  · rw [if_pos hx]
    exact tt_err A bs l c B at_8 most w hr hll hl hlc hB m x ht (by simpa using hx)
end Go.Proofs.YtdimlfjepliflaaGreatDoor
