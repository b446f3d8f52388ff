/-
  The walks of package session's List (and slices.Clone), of the document's Same.
-/
import Derived.Test.YtgphijkonmdehaaNot
import Derived.Deep.RegionHeld
import Derived.Laws.StructEq
namespace Go.Proofs.Ytgphijkonmdehaa
open Go.RowKit
set_option maxRecDepth 10000

/-- a list, in a row of one's own -/
def LO (w : World) (l : List Ss) (e : Ending) (w' : World) : Prop :=
  ∃ v, e = .returned v ∧ w'.ownsRow w.heap.size 37 5 v l.length (rows Ss.cells l) ∧ Below w.heap.size w w'
theorem LO.ls {w w' : World} {l : List Ss} {e : Ending} (h : LO w l e w') : LS Ss.cells w l e w' := by
  obtain ⟨v, rfl, ho, hb⟩ := h
  obtain ⟨A, c, rfl, hc, hr⟩ := own_rd ho
  exact ⟨A, c, rfl, hc, hr, hb, NewA.own ho⟩
set_option maxHeartbeats 400000 in
theorem clones_nil (w : World) : Calls Try.prog 29 #[.slice none 0 0] w (LO w []) := by
  have he : (binOp .eql 27 (.slice none 0 0) (.slice none 0 0)).run Try.prog w = .ok (.bool true) w := Lib.run_eql_slice_nil w _ _ none 0 0 0 0 Try.underlying27
  go_enter Try.func29, Try.ntmps29
  go_wp2_with fail
  go_ret
  exact ⟨_, rfl, World.ownsRow_nil _ _ _ _, Below.refl _ _⟩
set_option maxHeartbeats 1000000 in
theorem clones_some (g o : Nat) (l : List Ss) (n c B : Nat) (w : World) (hr : Rd w B (some ⟨g, o, none⟩) (rows Ss.cells l)) (hn : n = l.length) (hB : B ≤ w.heap.size) (hbig : n ≤ 100) :
    Calls Try.prog 29 #[.slice (some ⟨g, o, none⟩) n c] w (LO w l) := by
  obtain ⟨i0, hi, hz0, hz1, hz2⟩ := info_parts ssInfo
  have HR := hid (fun W (hW : Below w.heap.size w W) => hr.below hW hB)
  have HL := hid (rows_len (C := Ss.cells) Ss.len l)
  have H1 := hid (rows_one (C := Ss.cells) (l := l) Ss.ones)
  have HN := hid hn
  have HE : Hid (∀ W : World, (W.alloc (.cells #[] 37)).ownsRow W.heap.size 37 5 (.slice (some ⟨W.heap.size, 0, none⟩) 0 0) 0 []) := hid fun W => own_empty (Row.new _ _ #[]) (Nat.le_refl _)
  have he : (binOp .eql 27 (.slice (some ⟨g, o, none⟩) n c) (.slice none 0 0)).run Try.prog w = .ok (.bool false) w := Lib.run_eql_slice_nil w _ _ (some ⟨g, o, none⟩) n c 0 0 Try.underlying27
  clear hr hn
  go_enter Try.func29, Try.ntmps29
  go_wp2_with (refine wpl_append rfl (.tmp 5) (.tmp 6) 27 rfl w.heap.size 37 i0 _ 5 48 Try.underlying27 hi hz0 hz1 hz2 rfl (by omega) (.slice (some ⟨w.heap.size, 0, none⟩) 0 0) 0 _ rfl (HE.out w) B (some ⟨g, o, none⟩) n c (rows Ss.cells l) rfl ?_ ?_ ?_ ?_ ?_ ?_ ?_; intro v' w2 hown2 hb2 hg2; have HO2 := hid hown2; have HB2 := hid hb2; clear hown2 hb2 hg2)
  rotate_left
  · exact hid (HR.out _ ((Below.refl _ _).alloc (Nat.le_refl _) _))
  · exact hid (by rw [HL.out, HN.out])
  · exact hid H1.out
  · exact hid (le_maxLen (by omega))
  · exact hid (by omega)
  · exact hid (by simp)
  go_ret
  have ho := HO2.out
  rw [Nat.zero_add, List.nil_append, HN.out] at ho
  exact ⟨v', rfl, ho, ((Below.refl _ _).alloc (Nat.le_refl _) _).trans HB2.out⟩
theorem clones_any (v : Value) (l : List Ss) (w : World) (h : w.ownsRow 0 37 5 v l.length (rows Ss.cells l)) (hbig : l.length ≤ 100) :
    Calls Try.prog 29 #[v] w (LO w l) := by
  obtain ⟨A, c, e, hnc, hrd⟩ := own_rd h
  rcases h.2 with ⟨e2, h0⟩ | ⟨g, cap, cur, e2, -⟩
  · have hnil : l = [] := List.eq_nil_of_length_eq_zero h0
    subst hnil
    rw [e2]
    exact clones_nil w
  · rw [e2] at e
    simp only [Value.slice.injEq, true_and] at e
    obtain ⟨rfl, rfl⟩ := e
    rw [e2]
    exact clones_some g 0 l l.length cap w.heap.size w hrd rfl (Nat.le_refl _) hbig

theorem splice_same {α : Type} {xs X : List α} {o : Nat} (h : ∀ j u, X[j]? = some u → xs[o + j]? = some u) : splice xs o X = xs := by
  have e : (xs.drop o).take X.length = X := by
    apply List.ext_getElem?
    intro j
    rw [List.getElem?_take, List.getElem?_drop]
    by_cases hj : j < X.length
    · rw [if_pos hj, h j _ (List.getElem?_eq_getElem hj), List.getElem?_eq_getElem hj]
    · rw [if_neg hj, List.getElem?_eq_none (by omega)]
  unfold splice
  have h1 := List.take_append_drop o xs
  have h2 := List.take_append_drop X.length (xs.drop o)
  rw [e, List.drop_drop] at h2
  rw [h2, h1]
/-- a list of one's own, the same cells written again -/
theorem own_same {w : World} {B m n g cap : Nat} {e : TypeId} {xs X : List Value} (h : w.ownsRow B e m (.slice (some ⟨g, 0, none⟩) n cap) n xs) (o : Nat) (hX : ∀ j u, X[j]? = some u → xs[o + j]? = some u) (hl : o + X.length ≤ xs.length) :
    (w.setCells g o X).ownsRow B e m (.slice (some ⟨g, 0, none⟩) n cap) n xs ∧ w.grownBy (w.setCells g o X) (some g) ∧ w.there g o X.length := by
  rcases h.2 with ⟨hv, _⟩ | ⟨g', cap', cur, hv, hb, hh, h1, h2, h3, h4⟩
  · cases hv
  · simp only [Value.slice.injEq, Option.some.injEq, Addr.mk.injEq, and_true, true_and] at hv
    obtain ⟨rfl, rfl⟩ := hv
    have hr : Row w g e cur.toList := by unfold Row; simpa using hh
    have hle : xs.length ≤ cur.toList.length := by rw [← h4, List.length_take]; omega
    obtain ⟨r1, r2⟩ := hr.setCells X o (by omega)
    rw [splice_same (fun j u hu => by
      have h5 := hX j u hu
      rw [← h4, List.getElem?_take] at h5
      split at h5
      · exact h5
      · cases h5)] at r1
    exact ⟨⟨h.1, .inr ⟨g, cap, cur, rfl, hb, by unfold Row at r1; simpa using r1, h1, h2, h3, h4⟩⟩, r2, hr.there _ _ (by omega)⟩

theorem list_nil (w : World) : Calls Try.prog 15 #[.pointer none] w (LO w []) := by
  go_enter Try.func15, Try.ntmps15
  go_wp2_with fail
  go_ret
  exact ⟨_, rfl, World.ownsRow_nil _ _ _ _, Below.refl _ _⟩
set_option maxHeartbeats 1000000 in
theorem list_has (p : Nat) (v : Value) (T : List Ss) (w : World) (h : HasT w 54 p v T) : Calls Try.prog 15 #[.pointer (some ⟨p, 0, none⟩)] w (LO w T) := by
  have hw := h.wf.le
  have hc0 := h.c0
  have HCL := hid (fun W (hW : Below w.heap.size w W) => clones_any v T W (h.below hW).own (by omega))
  have HOK := hid (fun k (hk : k < T.length) => (h.wf.ok T[k] (List.getElem_mem hk)).t)
  have HZ := hid ssSize
  have HRL := hid (rows_len (C := Ss.cells) Ss.len T)
  have HGET := hid (fun k (hk : k < T.length) j u (hu : (Ss.cells T[k])[j]? = some u) => (rows_get (C := Ss.cells) Ss.len T k j hk (by have := (List.getElem?_eq_some_iff.1 hu).1; rw [Ss.len] at this; exact this)).trans hu)
  obtain ⟨n, hn⟩ : ∃ n, T.length = n := ⟨_, rfl⟩
  have HN := hid hn
  rw [hn] at hw
  clear h
  go_enter Try.func15, Try.ntmps15
  go_wp2_with (go_at_call 29; refine (HCL.out _ (Below.refl _ _)).mono ?_; rintro e w2 ⟨v2, rfl, ho2, hb2⟩; rw [hn] at ho2; have HO2 := hid ho2; have HB2 := hid hb2; clear ho2 hb2; obtain ⟨A2, c2, e2, hc2, hrd2⟩ := own_rd HO2.out; subst e2; clear hrd2)
  clear hn HCL hc0
  by_cases h0 : n = 0
  · subst h0
    go_loop [15] (fun i => i = .int .i64 0) (fun _ => 0)
    case atStart => rfl
    case round =>
      obtain rfl := hrel
      go_wp2_with fail
      go_ret
      exact ⟨_, rfl, by rw [HN.out]; exact HO2.out, HB2.out⟩
  obtain ⟨g, cap, e3, -, -⟩ := own_some HO2.out (by omega)
  simp only [Value.slice.injEq, true_and] at e3
  obtain ⟨rfl, rfl⟩ := e3
  go_loopw [15] (fun i wr => ∃ k : Nat, k ≤ n ∧ i = .int .i64 (k : Int) ∧ wr.ownsRow w.heap.size 37 5 (.slice (some ⟨g, 0, none⟩) n c2) n (rows Ss.cells T) ∧ Below w.heap.size w wr) (fun i _ => n - (intOf i).toNat)
  case atStart => exact ⟨0, by omega, rfl, HO2.out, HB2.out⟩
  case round =>
    obtain ⟨k, hk, rfl, ho, hbe⟩ := hrel
    have HBE := hid hbe
    have HO := hid ho
    by_cases hlt : k < n
    · have hkl : k < T.length := by rw [HN.out]; exact hlt
      obtain ⟨hge, hglt⟩ := ho.lt g rfl
      have hrg : wr.rangeAt g (k * 5) (Ss.cells T[k]) := fun j u hu => by
        have := ho.cells rfl (k * 5 + j) u (HGET.out k hkl j u hu)
        rw [add_lit, Nat.zero_add] at this
        exact this
      have HAP := hid (fun W => apart_any T[k] (HOK.out k hkl) W)
      have HG := hid (HGET.out k hkl)
      have HC5 : Hid ((Ss.cells T[k]).length = 5) := hid (Ss.len _)
      have HC1 : Hid ((Ss.cells T[k]).all (·.oneCell') = true) := hid (Ss.one _)
      have HFIT : Hid (k * 5 + 5 ≤ (rows Ss.cells T).length) := hid (by rw [HRL.out, HN.out]; omega)
      generalize Ss.cells T[k] = X at *
      have HRG := hid hrg
      have HGL := hid hglt
      have HGE := hid hge
      have hi0 : (0 : Int) ≤ (k : Int) := by omega
      have hi1 : (k : Int) < (n : Int) := by omega
      clear ho hbe hrg hglt hge
      go_wp2_with (first
        | (refine wpList_load_mid rfl 37 (.tmp 18) rfl g (k * 5) rfl X _ HRG.out Try.underlying37 rfl (by rw [HC5.out]; exact HZ.out) ?_)
        | (refine wpl_store_st rfl (.tmp 5) (.tmp 19) rfl HZ.out wr.heap.size ss0.cells X rfl rfl (Row.new _ _ _) ?_ (hid rfl) (hid HC5.out) (hid HC1.out); intro w3 hr3 hg3; have hb3 : Below wr.heap.size wr w3 := ((Below.refl _ _).alloc (Nat.le_refl _) _).trans (below_grown hg3 (Nat.le_refl _) (by simp)); have HB3 := hid hb3; have HR3 := hid hr3; clear hb3 hg3 hr3)
        | (refine wpList_load_row rfl 37 (.tmp 5) rfl wr.heap.size rfl 37 X.toArray (0, 0) _ HR3.out.arr' Try.underlying37 rfl (by rw [List.size_toArray, HC5.out]; exact HZ.out) ?_)
        | (go_at_call 27; refine (HAP.out _).mono ?_; rintro e w4 ⟨rfl, hb4⟩; have hb5 := HB3.out.trans (hb4.mono HB3.out.size); have HB5 := hid hb5; have HS := hid (own_same (own_below HO.out hb5) (k * 5) HG.out (by rw [HC5.out]; exact HFIT.out)); clear hb4 hb5)
        | (refine wpList_store_mid rfl 37 (.tmp 24) (.tmp 23) rfl g (k * 5) X.toArray rfl rfl HS.out.2.2 (by rw [List.size_toArray, HC5.out]; exact HZ.out) (by simpa using HC1.out) ?_))
      refine ⟨⟨k + 1, by omega, by go_num, HS.out.1, ?_⟩, by simp [intOf]; omega⟩
      have hb6 := HBE.out.trans (HB5.out.mono HBE.out.size)
      exact hb6.trans (below_grown HS.out.2.1 HGE.out hb6.size)
    · obtain rfl : k = n := by omega
      clear ho hbe
      go_wp2_with fail
      go_ret
      exact ⟨_, rfl, by rw [HN.out]; exact HO.out, HBE.out⟩
theorem list_any (p : Nat) (fp : List Nat) (T : List Ss) (w : World) (h : Gk 54 p T fp w) : Calls Try.prog 15 #[.pointer (some ⟨p, 0, none⟩)] w (LS Ss.cells w T) := by
  obtain ⟨v, -, h⟩ := h
  exact (list_has p v T w h).mono fun e w' hh => LO.ls hh
end Go.Proofs.Ytgphijkonmdehaa
