/-
  The walk of slices.Delete: one session is taken out of a list of one's own.
-/
import Derived.Test.YtgphijkonmdehaaSam
import Derived.Deep.RegionLaw
import Derived.BigRegion
namespace Go.Proofs.Ytgphijkonmdehaa
open Go.RowKit
set_option maxRecDepth 10000

theorem zeroSs (w : World) : (zeroValue 37).run Try.prog w = .ok (.agg ss0.cells.toArray) w := by
  obtain ⟨i0, hi, hz0, hz1, hz2⟩ := info_parts ssInfo
  simp [zeroValue, typeInfo, hi, hz0]
/-- clear(s), s of one element -/
theorem run_clear_one {P : Program} (w : World) (t e ty : TypeId) (zs : List Value) (ht : P.underlying t = some (.slice e)) (hv : ∀ w, (zeroValue e).run P w = .ok (.agg zs.toArray) w) (h1 : ∀ u ∈ zs, u.oneCell' = true) (b o c : Nat) (hth : w.there b o zs.length) :
    (Builtin.clear_ #[t] ty #[.slice (some ⟨b, o, none⟩) 1 c]).run P w = .ok (.tuple #[]) (w.setCells b o zs) := by
  have hzc : (Builtin.zeroCells (Value.agg zs.toArray).cells 1).toList = zs := by
    simp only [Value.cells, Builtin.zeroCells, Nat.one_mul]
    apply List.ext_getElem
    · simp
    · intro i h1 h2
      simp [Nat.mod_eq_of_lt h2, h2]
  have hst := run_storeCells_cells (P := P) b o zs 0 w (fun j hj => (hth j hj).1) (fun j hj => (hth j hj).2) h1
  simp only [Nat.add_zero] at hst
  simp [Builtin.clear_, run_underlying ht, hv, hzc, hst]
theorem rows_drop {α : Type} {C : α → List Value} {n : Nat} (h : ∀ x, (C x).length = n) : ∀ (l : List α) (k : Nat), rows C (l.drop k) = (rows C l).drop (k * n)
  | [], k => by simp [rows]
  | x :: l, 0 => by simp [rows]
  | x :: l, k + 1 => by
    have := rows_drop h l k
    simp only [rows, List.drop_succ_cons, List.map_cons, List.flatten_cons] at this ⊢
    have e : (k + 1) * n = (C x).length + k * n := by rw [h x, Nat.add_mul]; omega
    rw [this, e, List.drop_length_add_append]
/-- the cells behind the two writes -/
theorem del_own {w : World} {B g cap i : Nat} {T : List Ss} (h : w.ownsRow B 37 5 (.slice (some ⟨g, 0, none⟩) T.length cap) T.length (rows Ss.cells T)) (hi : i < T.length) (zs : List Value) (hz : zs.length = 5) :
    ((w.setCells g (i * 5) (rows Ss.cells (T.drop (i + 1)))).setCells g ((T.length - 1) * 5) zs).ownsRow B 37 5 (.slice (some ⟨g, 0, none⟩) (T.length - 1) cap) (T.length - 1) (rows Ss.cells (T.eraseIdx i)) ∧
    w.grownBy ((w.setCells g (i * 5) (rows Ss.cells (T.drop (i + 1)))).setCells g ((T.length - 1) * 5) zs) (some g) ∧
    (w.setCells g (i * 5) (rows Ss.cells (T.drop (i + 1)))).there g ((T.length - 1) * 5) 5 ∧
    w.there g (i * 5) (rows Ss.cells (T.drop (i + 1))).length := by
  have hlen := rows_len (C := Ss.cells) Ss.len T
  have hdl : (rows Ss.cells (T.drop (i + 1))).length = (T.length - (i + 1)) * 5 := by rw [rows_len (C := Ss.cells) Ss.len, List.length_drop]
  have hel : (rows Ss.cells (T.eraseIdx i)).length = (T.length - 1) * 5 := by rw [rows_len (C := Ss.cells) Ss.len, List.length_eraseIdx, if_pos hi]
  rcases h.2 with ⟨hv, _⟩ | ⟨g', cap', cur, hv, hb, hh, h1, h2, h3, h4⟩
  · cases hv
  · simp only [Value.slice.injEq, Option.some.injEq, Addr.mk.injEq, and_true, true_and] at hv
    obtain ⟨rfl, rfl⟩ := hv
    have hr : Row w g 37 cur.toList := by unfold Row; simpa using hh
    have hcs : cur.toList.length = cap * 5 := by simpa using h3
    obtain ⟨r1, q1⟩ := hr.setCells (rows Ss.cells (T.drop (i + 1))) (i * 5) (by omega)
    have hsl : (splice cur.toList (i * 5) (rows Ss.cells (T.drop (i + 1)))).length = cap * 5 := by
      unfold splice
      simp only [List.length_append, List.length_take, List.length_drop]
      omega
    obtain ⟨r2, q2⟩ := r1.setCells zs ((T.length - 1) * 5) (by omega)
    refine ⟨⟨by rw [hel], .inr ⟨g, cap, (splice (splice cur.toList (i * 5) (rows Ss.cells (T.drop (i + 1)))) ((T.length - 1) * 5) zs).toArray, rfl, hb, r2, by omega, h2, ?_, ?_⟩⟩, gtrans q1 q2, r1.there _ _ (by omega), hr.there _ _ (by omega)⟩
    · rw [List.size_toArray]
      unfold splice at hsl ⊢
      simp only [List.length_append, List.length_take, List.length_drop] at hsl ⊢
      omega
    · have e1 : rows Ss.cells (T.eraseIdx i) = (rows Ss.cells T).take (i * 5) ++ rows Ss.cells (T.drop (i + 1)) := by
        rw [List.eraseIdx_eq_take_drop_succ, rows_app, rows_take Ss.len]
      have e2 : (rows Ss.cells T).take (i * 5) = cur.toList.take (i * 5) := by
        rw [← h4, List.take_take, Nat.min_eq_left (by omega)]
      rw [e1, e2]
      show List.take ((T.length - 1) * 5) (splice _ _ _) = _
      unfold splice
      rw [List.take_append_of_le_length (by simp only [List.length_take, List.length_append, List.length_drop]; omega), List.take_take, Nat.min_self, ← List.append_assoc]
      rw [List.take_append_of_le_length (by simp only [List.length_take, List.length_append]; omega)]
      rw [List.take_of_length_le (by simp only [List.length_take, List.length_append]; omega)]

set_option maxHeartbeats 2000000 in
theorem del_any (g cap n i j : Nat) (T : List Ss) (w : World) (h : w.ownsRow 0 37 5 (.slice (some ⟨g, 0, none⟩) n cap) n (rows Ss.cells T)) (hn : n = T.length) (hj : j = i + 1) (hjn : j ≤ n) (hcap : n ≤ cap) :
    Calls Try.prog 46 #[.slice (some ⟨g, 0, none⟩) n cap, .int .i64 (i : Int), .int .i64 (j : Int)] w fun e w' => e = .returned (.slice (some ⟨g, 0, none⟩) (n - 1) cap) ∧ w'.ownsRow 0 37 5 (.slice (some ⟨g, 0, none⟩) (n - 1) cap) (n - 1) (rows Ss.cells (T.eraseIdx i)) ∧ Fr w w' [g] := by
  obtain ⟨i0, hi, hz0, hz1, hz2⟩ := info_parts ssInfo
  subst hn
  obtain ⟨k1, k2, k3, k4⟩ := del_own (w := w.drew) h (i := i) (by omega) ss0.cells rfl
  have hdl : (rows Ss.cells (T.drop (i + 1))).length = (T.length - j) * 5 := by rw [rows_len (C := Ss.cells) Ss.len, List.length_drop, hj]
  have hone := rows_one (C := Ss.cells) (l := T.drop (i + 1)) Ss.ones
  obtain ⟨A, hA, hsrc⟩ : ∃ A : Addr, (if cap = j then some (⟨g, 0, none⟩ : Addr) else some ⟨g, j * 5, none⟩) = some A ∧ Hid (∀ t u, (rows Ss.cells (T.drop (i + 1)))[t]? = some u → w.drew.cell? (A.add t) = some u) := by
    by_cases hc : cap = j
    · refine ⟨⟨g, 0, none⟩, by simp [hc], fun t u hu => ?_⟩
      have h0 : (rows Ss.cells (T.drop (i + 1))).length = 0 := by rw [hdl, show T.length - j = 0 by omega]
      rw [List.length_eq_zero_iff.1 h0] at hu
      simp at hu
    · refine ⟨⟨g, j * 5, none⟩, by simp [hc], fun t u hu => ?_⟩
      rw [rows_drop Ss.len, List.getElem?_drop, ← hj] at hu
      have := World.ownsRow.cells (w := w) h rfl (j * 5 + t) u hu
      rw [add_lit, Nat.zero_add] at this
      rw [add_lit]
      exact this
  generalize hX : rows Ss.cells (T.drop (i + 1)) = X at *
  obtain ⟨W1, hW1⟩ : ∃ W1, W1 = w.drew.setCells g (i * 5) X := ⟨_, rfl⟩
  rw [← hW1] at k1 k2 k3
  have hcl : ∀ ty, (Builtin.clear_ #[27] ty #[.slice (some ⟨g, (T.length - 1) * 5, none⟩) 1 (cap - (T.length - 1))]).run Try.prog W1 = .ok (.tuple #[]) (W1.setCells g ((T.length - 1) * 5) ss0.cells) :=
    fun ty => run_clear_one W1 _ _ ty ss0.cells Try.underlying27 zeroSs (Ss.ones _) g _ _ (by rw [Ss.len]; exact k3)
  have HW := hid hW1
  have HK1 := hid k1
  have HK2 := hid k2
  have s1 := hid hdl
  have s2 := hid hone
  have s3 := hid k4
  have e1 : i + (T.length - j) = T.length - 1 := by omega
  have e2 : T.length - (T.length - 1) = 1 := by omega
  generalize hN : T.length = n at *
  generalize T.eraseIdx i = U at *
  have h1 : i ≤ cap := by omega
  have h2 : j ≤ cap := by omega
  have h3 : n - 1 ≤ n := by omega
  have h4 : (i : Int) ≤ (j : Int) := by omega
  have h5 : ((i : Int) == (j : Int)) = false := beq_eq_false_iff_ne.2 (by omega)
  have HJ := hid hj
  clear hN hX hW1 k1 k2 k3 k4 hdl hone h hj
  go_enter Try.func46, Try.ntmps46
  go_wp2_with fail
  go_region_law (refine step_append_room rfl (.tmp 22) (.tmp 25) 27 rfl 37 i0 5 Try.underlying27 hi hz1 g 0 i cap (by simp [Act.eval, Act.put]) A (n - j) (cap - j) X (by simp [Act.eval, Act.put]) s1.out hsrc.out s2.out (by omega) (fun t ht => by rw [Nat.zero_add]; exact s3.out t ht) ?_; rw [Nat.zero_add, ← HW.out])
  go_wp2_with fail
  go_ret
  exact ⟨rfl, HK1.out, (Fr.refl w [g]).drew.grown HK2.out (by intro b hb; cases hb; exact .inl (by simp))⟩
end Go.Proofs.Ytgphijkonmdehaa
