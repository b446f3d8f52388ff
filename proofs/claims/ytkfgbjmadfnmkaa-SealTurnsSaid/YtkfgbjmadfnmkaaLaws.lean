/-
  The walks of the laws of layer 4: the chapter's example, SealBack, SealOpens.
-/
import Derived.Test.YtkfgbjmadfnmkaaWhole2
import Derived.Test.YtkfgbjmadfnmkaaLift
namespace Go.Proofs.Ytkfgbjmadfnmkaa
open Go.RowKit
set_option maxRecDepth 10000

set_option maxHeartbeats 1000000 in
theorem awake_any (w : World) : Calls Try.prog 22 #[] w (Yes w) := by
  have P1 : ∀ W : World, Calls Try.prog 23 #[.string ⟨#[]⟩, .string ⟨#[97, 98]⟩] W (SN W (layS 1 [97, 98], 0)) := fun W => seal_calls ⟨#[]⟩ ⟨#[97, 98]⟩ W (by decide)
  have hl := layS_len 1 [97, 98] (by decide)
  have hlast := lay_last 1 [97, 98] (by decide)
  have hopen := open_lay 1 [97, 98] (by decide)
  have hfive : (layS 1 [97, 98]).take 5 = [1, 2, 0, 97, 98] := rfl
  obtain ⟨L, hL⟩ : ∃ L : ByteArray, L = ⟨(layS 1 [97, 98]).toArray⟩ := ⟨_, rfl⟩
  have hsb : sb L = layS 1 [97, 98] := by rw [hL, sb_mk]
  have P2 := fun W => open_calls L W
  rw [hsb, hopen] at P2
  have Q1 : Hid (∀ W : World, Calls Try.prog 23 #[.string ⟨#[]⟩, .string ⟨#[97, 98]⟩] W fun e W' => e = .returned (.tuple #[.string L, .int .i64 0]) ∧ Below W.heap.size W W') := hid fun W => by rw [hL]; exact P1 W
  have Q2 := hid P2
  have h384 : L.size = 384 := by rw [← sb_len, hsb, hl]
  have h5 : L.extract 0 5 = ⟨#[1, 2, 0, 97, 98]⟩ := by
    have : sb (L.extract 0 5) = [1, 2, 0, 97, 98] := by
      rw [← hfive, ← hsb]
      simp [sb]
    rw [← mk_sb (L.extract 0 5), this]
  have h1 : (L[383]'(by omega)) = 1 := by
    have : (sb L)[383]? = some 1 := by rw [hsb, hlast]
    rw [List.getElem?_eq_getElem (by rw [sb_len]; omega)] at this
    exact Option.some.inj this
  clear P1 P2 hl hlast hopen hfive hL hsb
  go_enter Try.func22, Try.ntmps22
  go_wp2_with (first
    | (go_at_call 23; refine (Q1.out _).mono ?_; rintro e w1 ⟨rfl, hb1⟩)
    | (go_at_call 25; refine (Q2.out _).mono ?_; rintro e w2 ⟨rfl, hb2⟩))
  go_ret
  exact ⟨rfl, hb1.trans (hb2.mono hb1.size)⟩

/-- Seal of a text that has room: a sealed sector L -/
theorem seal_room (old s : ByteArray) (hold : old.size ≤ 140737488351232) (h : s.size ≤ 376) : ∃ L : ByteArray, sb L = layS (nextS (sb old)) (sb s) ∧ L.size = 384 ∧ openS (sb L) = (sb s, true) ∧
    Hid (∀ W : World, Calls Try.prog 23 #[.string old, .string s] W fun e W' => e = .returned (.tuple #[.string L, .int .i64 0]) ∧ Below W.heap.size W W') := by
  have hl := sb_len s
  have e : sealS (sb old) (sb s) = (layS (nextS (sb old)) (sb s), 0) := by unfold sealS; rw [if_neg (by omega)]
  refine ⟨⟨(layS (nextS (sb old)) (sb s)).toArray⟩, sb_mk _, by rw [← sb_len, sb_mk, layS_len _ _ (by omega)], by rw [sb_mk, open_lay _ _ (by omega)], hid fun W => ?_⟩
  have := seal_calls old s W (by omega)
  rw [e] at this
  exact this
theorem seal_none (old s : ByteArray) (hold : old.size ≤ 140737488351232) (h : ¬ s.size ≤ 376) :
    Hid (∀ W : World, Calls Try.prog 23 #[.string old, .string s] W fun e W' => e = .returned (.tuple #[.string ⟨#[]⟩, .int .i64 5]) ∧ Below W.heap.size W W') := by
  have hl := sb_len s
  have e : sealS (sb old) (sb s) = ([], 5) := by unfold sealS; rw [if_pos (by omega)]
  refine hid fun W => ?_
  have := seal_calls old s W (by omega)
  rw [e] at this
  exact this
theorem open_of (L : ByteArray) (r : List UInt8 × Bool) (h : openS (sb L) = r) :
    Hid (∀ W : World, Calls Try.prog 25 #[.string L] W (SB W r)) := hid fun W => by rw [← h]; exact open_calls L W

set_option maxHeartbeats 1000000 in
theorem back_any (old s : ByteArray) (w : World) (hold : old.size ≤ 140737488351232) :
    Calls Try.prog 4 #[.string old, .string s] w (Yes w) := by
  have HA := hid awake_any
  by_cases h : s.size ≤ 376
  · obtain ⟨L, hsb, hL, ho, Q1⟩ := seal_room old s hold h
    have e : sealS (sb old) (sb s) = (layS (nextS (sb old)) (sb s), 0) := by unfold sealS; rw [if_neg (by rw [sb_len]; omega)]
    have Q3 : Hid (∀ W : World, Calls Try.prog 24 #[.string old, .string s] W fun e W' => e = .returned (.tuple #[.string L, .int .i64 0]) ∧ Below W.heap.size W W') := hid fun W => by
      have := rseal_calls old s W (by omega)
      rw [e, ← hsb] at this
      have h2 : (⟨(sb L).toArray⟩ : ByteArray) = L := mk_sb L
      refine this.mono fun e W' hh => ?_
      rw [← h2]
      exact hh
    have Q2 : Hid (∀ W : World, Calls Try.prog 25 #[.string L] W fun e W' => e = .returned (.tuple #[.string s, .bool true]) ∧ Below W.heap.size W W') := hid fun W => by
      have := (open_of L _ ho).out W
      refine this.mono fun e W' hh => ?_
      have h2 : (⟨(sb s).toArray⟩ : ByteArray) = s := mk_sb s
      rw [← h2]
      exact hh
    clear hsb ho e
    go_enter Try.func4, Try.ntmps4
    go_wp2_with (first
      | (go_at_call 22; refine (HA.out _).mono ?_; rintro e w1 ⟨rfl, hb1⟩)
      | (go_at_call 23; refine (Q1.out _).mono ?_; rintro e w2 ⟨rfl, hb2⟩)
      | (go_at_call 24; refine (Q3.out _).mono ?_; rintro e w3 ⟨rfl, hb3⟩)
      | (go_at_call 25; refine (Q2.out _).mono ?_; rintro e w4 ⟨rfl, hb4⟩))
    go_ret
    have s1 := hb1.size
    have s2 := hb2.size
    have s3 := hb3.size
    exact ⟨rfl, ((hb1.trans (hb2.mono s1)).trans (hb3.mono (by omega))).trans (hb4.mono (by omega))⟩
  · have Q1 := seal_none old s hold h
    have e : sealS (sb old) (sb s) = ([], 5) := by unfold sealS; rw [if_pos (by rw [sb_len]; omega)]
    have Q3 : Hid (∀ W : World, Calls Try.prog 24 #[.string old, .string s] W fun e W' => e = .returned (.tuple #[.string ⟨#[]⟩, .int .i64 5]) ∧ Below W.heap.size W W') := hid fun W => by
      have := rseal_calls old s W (by omega)
      rw [e] at this
      exact this
    have hI : (376 : Int) < s.size := by omega
    clear h e
    go_enter Try.func4, Try.ntmps4
    go_wp2_with (first
      | (go_at_call 22; refine (HA.out _).mono ?_; rintro e w1 ⟨rfl, hb1⟩)
      | (go_at_call 23; refine (Q1.out _).mono ?_; rintro e w2 ⟨rfl, hb2⟩)
      | (go_at_call 24; refine (Q3.out _).mono ?_; rintro e w3 ⟨rfl, hb3⟩))
    go_ret
    have s1 := hb1.size
    have s2 := hb2.size
    exact ⟨rfl, (hb1.trans (hb2.mono s1)).trans (hb3.mono (by omega))⟩

set_option maxHeartbeats 1000000 in
theorem opens_any (s : ByteArray) (w : World) :
    Calls Try.prog 5 #[.string s] w (Yes w) := by
  have HA := hid awake_any
  have P1 := fun W => open_calls s W
  have P2 := fun W => ropen_calls s W
  generalize openS (sb s) = r at P1 P2
  obtain ⟨t, b⟩ := r
  have Q1 := hid P1
  have Q2 := hid P2
  clear P1 P2
  go_enter Try.func5, Try.ntmps5
  go_wp2_with (first
    | (go_at_call 22; refine (HA.out _).mono ?_; rintro e w1 ⟨rfl, hb1⟩)
    | (go_at_call 25; refine (Q1.out _).mono ?_; rintro e w2 ⟨rfl, hb2⟩)
    | (go_at_call 26; refine (Q2.out _).mono ?_; rintro e w3 ⟨rfl, hb3⟩))
  go_ret
  have s1 := hb1.size
  have s2 := hb2.size
  exact ⟨rfl, (hb1.trans (hb2.mono s1)).trans (hb3.mono (by omega))⟩
end Go.Proofs.Ytkfgbjmadfnmkaa
