/-
  The walks of the document's Has, Write.
-/
import Derived.Test.YtogchfpecbmocaaM21
import Derived.Test.YtogchfpecbmocaaM19
namespace Go.Proofs.Ytogchfpecbmocaa
open Go.RowKit
set_option maxRecDepth 10000

theorem has_sr (l : List UInt8) : (unpackU (openS l).1).2 = 0 ↔ SR (hasU l) := unpack_ok _
set_option maxHeartbeats 1000000 in
theorem rhas_any (l : List UInt8) (w : World) : Calls Try.prog 48 #[.string ⟨l.toArray⟩] w fun e w' => e = .returned (.tuple #[.agg (hasU l).cells, .bool (decide (SR (hasU l)))]) ∧ Below w.heap.size w w' := by
  have HZS := hid superSize
  have HO : Hid (∀ W, Calls Try.prog 70 #[.string ⟨l.toArray⟩] W fun e w' => e = .returned (.tuple #[.string ⟨(openS l).1.toArray⟩, .bool (openS l).2]) ∧ Below W.heap.size W w') := hid fun W => by
    have := ropen_calls ⟨l.toArray⟩ W
    rw [sb_mk] at this
    exact this
  have hlen : (openS l).1.length ≤ 376 := by
    unfold openS
    split
    · rename_i h
      exact tt_len l h.2.1
    · simp
  have HU : Hid (∀ W, Calls Try.prog 16 #[.string ⟨(openS l).1.toArray⟩] W fun e w' => e = .returned (.tuple #[.agg (hasU l).cells, .int .i64 (unpackU (openS l).1).2]) ∧ Below W.heap.size W w') := hid fun W => by
    have := runpack_any ⟨(openS l).1.toArray⟩ (by rw [mk_size]; omega) W
    rw [sb_mk] at this
    exact this
  have hb : decide (SR (hasU l)) = ((unpackU (openS l).1).2 == 0) := by
    rw [Bool.eq_iff_iff, decide_eq_true_iff, ← has_sr l]
    simp
  cases hok : (openS l).2 with
  | false =>
    have he : openS l = ([], false) := by
      unfold openS at hok ⊢
      split at hok
      · cases hok
      · rename_i h
        rw [if_neg h]
    have h0 : hasU l = su0 := hasU_none l he
    rw [hok] at HO
    rw [h0, decide_eq_false su0_not]
    generalize (openS l).1 = t at *
    clear hb hlen HU he h0 hok
    go_enter Try.func48, Try.ntmps48
    go_wp2_with (first
      | (go_at_call 70; refine (HO.out _).mono ?_; rintro e w1 ⟨rfl, hb1⟩; have hrow := (Row.new w 27 su0.cells).below hb1 (by simp); have bb := ((Below.refl w.heap.size w).alloc (Nat.le_refl _) _).trans (hb1.mono (by simp)))
      | (refine wpl_store_st rfl (.tmp 2) (.tmp 15) rfl (n := 17) HZS.out w.heap.size su0.cells su0.cells rfl rfl hrow ?_ (hid rfl) (hid rfl) (cells_one _); intro w4 HR4 HB4))
    exact bodyPost_ret (v := .tuple #[.agg su0.cells, .bool false]) (results_cell1 rfl _ _ w.heap.size 27 su0.cells (0, 0) _ (.bool false) rfl rfl HR4.arr Try.underlying27 rfl HZS.out) rfl
      ⟨rfl, bb.trans (below_grown HB4 (Nat.le_refl _) bb.size)⟩
  | true =>
    rw [hok] at HO
    rw [hb]
    generalize hasU l = s at *
    generalize (openS l).1 = t at *
    generalize (unpackU t).2 = y at *
    clear hb hlen hok
    go_enter Try.func48, Try.ntmps48
    go_wp2_with (first
      | (go_at_call 70; refine (HO.out _).mono ?_; rintro e w1 ⟨rfl, hb1⟩; have hrow := (Row.new w 27 su0.cells).below hb1 (by simp); have bb := ((Below.refl w.heap.size w).alloc (Nat.le_refl _) _).trans (hb1.mono (by simp)))
      | (go_at_call 16; refine (HU.out _).mono ?_; rintro e w2 ⟨rfl, hb2⟩; replace hrow := hrow.below hb2 hrow.lt; replace bb := bb.trans (hb2.mono bb.size))
      | (refine wpl_store_st rfl (.tmp 6) (.tmp 19) rfl (n := 17) HZS.out w2.heap.size su0.cells s.cells rfl rfl (Row.new _ _ _) ?_ (hid rfl) (hid rfl) (cells_one _); intro w3 HR3 HB3; have bb3 := (bb.alloc bb.size (.cells su0.cells 27)).trans (below_grown HB3 bb.size (by have := bb.size; simp; omega)); have r3 := (hrow.alloc (.cells su0.cells 27)).grown HB3 (by have := hrow.lt; intro e; have := Option.some.inj e; omega))
      | (refine wpList_load_row rfl 27 (.tmp 6) rfl w2.heap.size rfl 27 s.cells (0, 0) _ HR3.arr Try.underlying27 rfl HZS.out ?_)
      | (refine wpl_store_st rfl (.tmp 2) (.tmp 21) rfl (n := 17) HZS.out w.heap.size su0.cells s.cells rfl rfl r3 ?_ (hid rfl) (hid rfl) (cells_one _); intro w4 HR4 HB4))
    exact bodyPost_ret (v := .tuple #[.agg s.cells, .bool (y == 0)]) (results_cell1 rfl _ _ w.heap.size 27 s.cells (0, 0) _ (.bool (y == 0)) rfl rfl HR4.arr Try.underlying27 rfl HZS.out) rfl
      ⟨rfl, bb3.trans (below_grown HB4 (Nat.le_refl _) bb3.size)⟩
theorem rx_trans {w w1 w2 : World} {q gl gm cl cm : Nat} {vw vw1 : Value} {S2 : Sp} (f1 : Fr w w1 (fpR q gl gm vw)) (o1 : ∀ g, vw1.ownBlock = some g → vw.ownBlock = some g ∨ w.heap.size ≤ g) (h2 : RX w1 q gl gm cl cm vw1 S2 w2) : RX w q gl gm cl cm vw S2 w2 := by
  obtain ⟨vw2, k1, k2, k3⟩ := h2
  have hs := f1.size
  refine ⟨vw2, k1, f1.trans k2 (fun b hb hlt => ?_), fun g hg => ?_⟩
  · simp only [fpR, List.mem_cons, Option.mem_toList] at hb ⊢
    rcases hb with h | h | h | h
    · exact .inl h
    · exact .inr (.inl h)
    · exact .inr (.inr (.inl h))
    · rcases o1 b h with h | h
      · exact .inr (.inr (.inr h))
      · omega
  · rcases k3 g hg with h | h
    · exact o1 g h
    · exact .inr (by omega)
theorem HasR.below {w w' : World} {q gl gm cl cm : Nat} {vw : Value} {S : Sp} (h : HasR w q gl gm cl cm vw S) (hb : Below w.heap.size w w') : HasR w' q gl gm cl cm vw S := h.fr (Fr.of_below hb) (by simp)
/-- the answer's disk in the middle of Write; the box stays -/
structure MidR (w0 wr : World) (q gl gm cl cm : Nat) (vw : Value) (box : Nat) (s : Su) (S1 : Sp) : Prop where
  dx : RX w0 q gl gm cl cm vw S1 wr
  row : Row wr box 27 s.cells.toList
  nb : ∃ vk, HasR wr q gl gm cl cm vk S1 ∧ box ∉ fpR q gl gm vk ∧ Fr w0 wr (fpR q gl gm vw) ∧ ∀ g, vk.ownBlock = some g → vw.ownBlock = some g ∨ w0.heap.size ≤ g
theorem MidR.below {w0 wr w' : World} {q gl gm cl cm : Nat} {vw : Value} {box : Nat} {s : Su} {S1 : Sp} (h : MidR w0 wr q gl gm cl cm vw box s S1) (hb : Below wr.heap.size wr w') : MidR w0 w' q gl gm cl cm vw box s S1 := by
  obtain ⟨vk, k1, k2, k3, k4⟩ := h.nb
  have k3' : Fr w0 w' (fpR q gl gm vw) := k3.trans (Fr.of_below hb) (by simp)
  exact ⟨⟨vk, k1.below hb, k3', k4⟩, h.row.below hb h.row.lt, vk, k1.below hb, k2, k3', k4⟩
theorem MidR.step {w0 wr w' : World} {q gl gm cl cm : Nat} {vw vk : Value} {box : Nat} {s : Su} {S1 S2 : Sp} (h : MidR w0 wr q gl gm cl cm vw box s S1) (k2 : box ∉ fpR q gl gm vk) (k3 : Fr w0 wr (fpR q gl gm vw)) (k4 : ∀ g, vk.ownBlock = some g → vw.ownBlock = some g ∨ w0.heap.size ≤ g)
    (hd : RX wr q gl gm cl cm vk S2 w') : MidR w0 w' q gl gm cl cm vw box s S2 := by
  have hdx := rx_trans k3 k4 hd
  obtain ⟨v2, j1, j2, j3⟩ := hd
  have hs := k3.size
  have hrl := h.row.lt
  refine ⟨hdx, j2.row h.row k2, v2, j1, ?_, k3.trans j2 (fun b hb hlt => ?_), fun g hg => ?_⟩
  · simp only [fpR, List.mem_cons, Option.mem_toList, not_or] at k2 ⊢
    refine ⟨k2.1, k2.2.1, k2.2.2.1, fun hg => ?_⟩
    rcases j3 box hg with h | h
    · exact k2.2.2.2 h
    · omega
  · simp only [fpR, List.mem_cons, Option.mem_toList] at hb ⊢
    rcases hb with h | h | h | h
    · exact .inl h
    · exact .inr (.inl h)
    · exact .inr (.inr (.inl h))
    · rcases k4 b h with h | h
      · exact .inr (.inr (.inr h))
      · omega
  · rcases j3 g hg with h | h
    · exact k4 g h
    · exact .inr (by omega)
end Go.Proofs.Ytogchfpecbmocaa
