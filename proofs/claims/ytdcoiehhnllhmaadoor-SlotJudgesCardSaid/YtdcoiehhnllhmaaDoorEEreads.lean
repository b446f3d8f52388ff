/-
  The walks of the document's Unpack of an entry, of EntryReads.
-/
import Derived.Test.YtdcoiehhnllhmaaDoorERup
import Derived.Test.YtdcoiehhnllhmaaDoorM12
namespace Go.Proofs.YtdcoiehhnllhmaaDoor
open Go.RowKit
set_option maxRecDepth 10000

theorem unpackS_ok {s : List UInt8} {h : Hd} {b : List UInt8} (e : unpackS s = (h, b, 0)) : packS h b = (s, 0) ∧ h.fits := by
  unfold unpackS at e
  by_cases h1 : s.length < 128
  · rw [if_pos h1] at e
    simp at e
  · rw [if_neg h1] at e
    by_cases h2 : packS (hdOf (takeN (s.take 128))) (s.drop 128) = (s, 0)
    · rw [if_pos h2] at e
      obtain ⟨e1, e2⟩ := Prod.mk.inj e
      obtain ⟨e2, _⟩ := Prod.mk.inj e2
      subst e1 e2
      exact ⟨h2, hdS_fits s (by omega)⟩
    · rw [if_neg h2] at e
      simp at e
theorem eof_fits {h : Hd} (b : ByteArray) (hh : h.fits) : (eof h b).fits := by
  obtain ⟨⟨a1, a2, a3, a4, a5, a6⟩, ⟨b1, b2, b3, b4, b5⟩, hp⟩ := hh
  exact ⟨⟨a4, a5, b4, b1⟩, ⟨b2, b3, a3⟩, hp⟩
theorem back_iff {s : List UInt8} {h : Hd} {b : List UInt8} (e : unpackS s = (h, b, 0)) : packE (eof h ⟨b.toArray⟩) = (s, 0) ↔ (Rt (eof h ⟨b.toArray⟩) ∧ hof (eof h ⟨b.toArray⟩) = h) := by
  obtain ⟨h1, h2⟩ := unpackS_ok e
  have hb : sb (eof h ⟨b.toArray⟩).body = b := sb_mk b
  constructor
  · intro hp
    obtain ⟨p1, p2⟩ := packE_ok hp
    rw [hb] at p2
    exact ⟨p1, (pack_inj (packS_rt (eof_fits _ h2) p1).2 h2 p2 h1).1⟩
  · rintro ⟨p1, p2⟩
    unfold packE
    rw [if_pos p1, hb, p2, h1]
set_option maxHeartbeats 1000000 in
theorem r9_none (s : ByteArray) (h : Hd) (b : ByteArray) (f : Int) (w : World) (hne : (f != 0) = true)
    (HU : Hid (∀ W : World, Calls Tryd.prog 79 #[.string s] W fun x W' => x = .returned (.tuple #[h.val, .string b, .int .i64 f]) ∧ Below W.heap.size W W')) :
    Calls Tryd.prog 50 #[.string s] w (EE w (en0, 4)) := by
  have HZ := hid esize
  have HZH := hid hsize
  have HB0 := hid ((Below.refl w.heap.size w).alloc (Nat.le_refl _) (.cells en0.cells 24))
  have HR0 : Hid (Row (w.alloc (.cells en0.cells 24)) w.heap.size 24 en0.cells.toList) := hid (Row.new _ _ _)
  go_enter Tryd.func50, Tryd.ntmps50
  go_wp2_with (first
    | (go_at_call 79; refine (HU.out _).mono ?_; rintro e w1 ⟨rfl, hb1⟩; have hlt0 := HR0.out.lt; have hr0 := HR0.out.below hb1 hlt0; have hbb := HB0.out.trans (hb1.mono HB0.out.size); clear hb1)
    | (refine wpl_store_head rfl (.tmp 4) (.tmp 13) rfl w1.heap.size h rfl rfl (Row.new _ _ _) ?_; intro w2 hr2 hg2; have hl1 := hr0.lt; have hr0x := (hr0.alloc _).grown hg2 (by intro e; have := Option.some.inj e; omega); have hbb2 := (hbb.alloc hbb.size _).trans (below_grown hg2 hbb.size (by have := hbb.size; simp; omega)); clear hr0 hbb; have hr0 := hr0x; have hbb := hbb2; clear hr0x hbb2 hg2)
    | (refine wpl_store_st rfl (.tmp 2) (.tmp 18) rfl HZ.out w.heap.size en0.cells en0.cells rfl rfl hr0 ?_ (hid rfl) (hid rfl) (hid (ecells_one en0)); intro wz hrz hgz; have HBZ := hid (hbb.trans (below_grown hgz (Nat.le_refl _) hbb.size)); clear hgz))
  refine bodyPost_ret (v := .tuple #[.agg en0.cells, .int .i64 4]) (results_cell1 rfl _ _ w.heap.size 24 en0.cells (0, 0) _ (.int .i64 4) rfl rfl (Row.arr hrz) Tryd.underlying24 rfl HZ.out) rfl ⟨rfl, HBZ.out⟩
set_option maxHeartbeats 2000000 in
theorem r9_good (s : ByteArray) (h : Hd) (b PT : ByteArray) (PE : Int) (w : World) (he : (PE != 0) = false) (hs : (PT.toList == s.toList) = true)
    (HU : Hid (∀ W : World, Calls Tryd.prog 79 #[.string s] W fun x W' => x = .returned (.tuple #[h.val, .string b, .int .i64 0]) ∧ Below W.heap.size W W'))
    (HP : Hid (∀ W : World, Calls Tryd.prog 38 #[.agg (eof h b).cells] W fun x W' => x = .returned (.tuple #[.string PT, .int .i64 PE]) ∧ Below W.heap.size W W')) :
    Calls Tryd.prog 50 #[.string s] w (EE w (eof h b, 0)) := by
  have HZ := hid esize
  have HZH := hid hsize
  have HB0 := hid ((Below.refl w.heap.size w).alloc (Nat.le_refl _) (.cells en0.cells 24))
  have HR0 : Hid (Row (w.alloc (.cells en0.cells 24)) w.heap.size 24 en0.cells.toList) := hid (Row.new _ _ _)
  go_enter Tryd.func50, Tryd.ntmps50
  go_wp2_with (first
    | (go_at_call 79; refine (HU.out _).mono ?_; rintro e w1 ⟨rfl, hb1⟩; have hlt0 := HR0.out.lt; have hr0 := HR0.out.below hb1 hlt0; have hbb := HB0.out.trans (hb1.mono HB0.out.size); clear hb1)
    | (refine wpl_store_head rfl (.tmp 4) (.tmp 13) rfl w1.heap.size h rfl rfl (Row.new _ _ _) ?_; intro w2 hr2 hg2; have hl1 := hr0.lt; have hr0x := (hr0.alloc _).grown hg2 (by intro e; have := Option.some.inj e; omega); have hbb2 := (hbb.alloc hbb.size _).trans (below_grown hg2 hbb.size (by have := hbb.size; simp; omega)); clear hr0 hbb; have hr0 := hr0x; have hbb := hbb2; clear hr0x hbb2 hg2; have c2 := hr2.at_ 2 _ rfl; have c3 := hr2.at_ 3 _ rfl; have c4 := hr2.at_ 4 _ rfl; have c6 := hr2.at_ 6 _ rfl; have c7 := hr2.at_ 7 _ rfl; have c8 := hr2.at_ 8 _ rfl; have c9 := hr2.at_ 9 _ rfl; have c11 := hr2.at_ 11 _ rfl)
    | (refine wpl_store_st rfl (.tmp 7) (.tmp 36) rfl HZ.out w2.heap.size en0.cells (eof h b).cells rfl rfl (Row.new _ _ _) ?_ (hid rfl) (hid rfl) (hid (ecells_one (eof h b))); intro w4 hr4 hg4; have hl2 := hr0.lt; have hr0x := (hr0.alloc _).grown hg4 (by intro e; have := Option.some.inj e; omega); have hbb2 := (hbb.alloc hbb.size _).trans (below_grown hg4 hbb.size (by have := hbb.size; simp; omega)); clear hr0 hbb hr2 c2 c3 c4 c6 c7 c8 c9 c11; have hr0 := hr0x; have hbb := hbb2; clear hr0x hbb2 hg4)
    | (refine wpList_load_row rfl 24 (.tmp 7) rfl w2.heap.size rfl 24 (eof h b).cells (0, 0) _ hr4.arr Tryd.underlying24 rfl HZ.out ?_)
    | (go_at_call 38; refine (HP.out _).mono ?_; rintro e w5 ⟨rfl, hb5⟩; have hr4x := hr4.below hb5 hr4.lt; have hr0x := hr0.below hb5 hr0.lt; have hbb5 := hbb.trans (hb5.mono hbb.size); clear hr4 hr0 hbb hb5; have hr4 := hr4x; have hr0 := hr0x; have hbb := hbb5; clear hr4x hr0x hbb5)
    | (refine wpl_store_st rfl (.tmp 2) (.tmp 50) rfl HZ.out w.heap.size en0.cells (eof h b).cells rfl rfl hr0 ?_ (hid rfl) (hid rfl) (hid (ecells_one (eof h b))); intro wz hrz hgz; have HBZ := hid (hbb.trans (below_grown hgz (Nat.le_refl _) hbb.size)); clear hgz))
  refine bodyPost_ret (v := .tuple #[.agg (eof h b).cells, .int .i64 0]) (results_cell1 rfl _ _ w.heap.size 24 (eof h b).cells (0, 0) _ (.int .i64 0) rfl rfl (Row.arr hrz) Tryd.underlying24 rfl HZ.out) rfl ⟨rfl, HBZ.out⟩
set_option maxHeartbeats 2000000 in
theorem r9_bad (s : ByteArray) (h : Hd) (b PT : ByteArray) (PE : Int) (w : World) (hbad : (PE != 0) = true ∨ ((PE != 0) = false ∧ (PT.toList == s.toList) = false))
    (HU : Hid (∀ W : World, Calls Tryd.prog 79 #[.string s] W fun x W' => x = .returned (.tuple #[h.val, .string b, .int .i64 0]) ∧ Below W.heap.size W W'))
    (HP : Hid (∀ W : World, Calls Tryd.prog 38 #[.agg (eof h b).cells] W fun x W' => x = .returned (.tuple #[.string PT, .int .i64 PE]) ∧ Below W.heap.size W W')) :
    Calls Tryd.prog 50 #[.string s] w (EE w (en0, 4)) := by
  have HZ := hid esize
  have HZH := hid hsize
  have HB0 := hid ((Below.refl w.heap.size w).alloc (Nat.le_refl _) (.cells en0.cells 24))
  have HR0 : Hid (Row (w.alloc (.cells en0.cells 24)) w.heap.size 24 en0.cells.toList) := hid (Row.new _ _ _)
  rcases hbad with he | ⟨he, hs⟩
  · go_enter Tryd.func50, Tryd.ntmps50
    go_wp2_with (first
      | (go_at_call 79; refine (HU.out _).mono ?_; rintro e w1 ⟨rfl, hb1⟩; have hlt0 := HR0.out.lt; have hr0 := HR0.out.below hb1 hlt0; have hbb := HB0.out.trans (hb1.mono HB0.out.size); clear hb1)
      | (refine wpl_store_head rfl (.tmp 4) (.tmp 13) rfl w1.heap.size h rfl rfl (Row.new _ _ _) ?_; intro w2 hr2 hg2; have hl1 := hr0.lt; have hr0x := (hr0.alloc _).grown hg2 (by intro e; have := Option.some.inj e; omega); have hbb2 := (hbb.alloc hbb.size _).trans (below_grown hg2 hbb.size (by have := hbb.size; simp; omega)); clear hr0 hbb; have hr0 := hr0x; have hbb := hbb2; clear hr0x hbb2 hg2; have c2 := hr2.at_ 2 _ rfl; have c3 := hr2.at_ 3 _ rfl; have c4 := hr2.at_ 4 _ rfl; have c6 := hr2.at_ 6 _ rfl; have c7 := hr2.at_ 7 _ rfl; have c8 := hr2.at_ 8 _ rfl; have c9 := hr2.at_ 9 _ rfl; have c11 := hr2.at_ 11 _ rfl)
      | (refine wpl_store_st rfl (.tmp 7) (.tmp 36) rfl HZ.out w2.heap.size en0.cells (eof h b).cells rfl rfl (Row.new _ _ _) ?_ (hid rfl) (hid rfl) (hid (ecells_one (eof h b))); intro w4 hr4 hg4; have hl2 := hr0.lt; have hr0x := (hr0.alloc _).grown hg4 (by intro e; have := Option.some.inj e; omega); have hbb2 := (hbb.alloc hbb.size _).trans (below_grown hg4 hbb.size (by have := hbb.size; simp; omega)); clear hr0 hbb hr2 c2 c3 c4 c6 c7 c8 c9 c11; have hr0 := hr0x; have hbb := hbb2; clear hr0x hbb2 hg4)
      | (refine wpList_load_row rfl 24 (.tmp 7) rfl w2.heap.size rfl 24 (eof h b).cells (0, 0) _ hr4.arr Tryd.underlying24 rfl HZ.out ?_)
      | (go_at_call 38; refine (HP.out _).mono ?_; rintro e w5 ⟨rfl, hb5⟩; have hr4x := hr4.below hb5 hr4.lt; have hr0x := hr0.below hb5 hr0.lt; have hbb5 := hbb.trans (hb5.mono hbb.size); clear hr4 hr0 hbb hb5; have hr4 := hr4x; have hr0 := hr0x; have hbb := hbb5; clear hr4x hr0x hbb5)
      | (refine wpl_store_st rfl (.tmp 2) (.tmp 49) rfl HZ.out w.heap.size en0.cells en0.cells rfl rfl hr0 ?_ (hid rfl) (hid rfl) (hid (ecells_one en0)); intro wz hrz hgz; have HBZ := hid (hbb.trans (below_grown hgz (Nat.le_refl _) hbb.size)); clear hgz))
    refine bodyPost_ret (v := .tuple #[.agg en0.cells, .int .i64 4]) (results_cell1 rfl _ _ w.heap.size 24 en0.cells (0, 0) _ (.int .i64 4) rfl rfl (Row.arr hrz) Tryd.underlying24 rfl HZ.out) rfl ⟨rfl, HBZ.out⟩
  · go_enter Tryd.func50, Tryd.ntmps50
    go_wp2_with (first
      | (go_at_call 79; refine (HU.out _).mono ?_; rintro e w1 ⟨rfl, hb1⟩; have hlt0 := HR0.out.lt; have hr0 := HR0.out.below hb1 hlt0; have hbb := HB0.out.trans (hb1.mono HB0.out.size); clear hb1)
      | (refine wpl_store_head rfl (.tmp 4) (.tmp 13) rfl w1.heap.size h rfl rfl (Row.new _ _ _) ?_; intro w2 hr2 hg2; have hl1 := hr0.lt; have hr0x := (hr0.alloc _).grown hg2 (by intro e; have := Option.some.inj e; omega); have hbb2 := (hbb.alloc hbb.size _).trans (below_grown hg2 hbb.size (by have := hbb.size; simp; omega)); clear hr0 hbb; have hr0 := hr0x; have hbb := hbb2; clear hr0x hbb2 hg2; have c2 := hr2.at_ 2 _ rfl; have c3 := hr2.at_ 3 _ rfl; have c4 := hr2.at_ 4 _ rfl; have c6 := hr2.at_ 6 _ rfl; have c7 := hr2.at_ 7 _ rfl; have c8 := hr2.at_ 8 _ rfl; have c9 := hr2.at_ 9 _ rfl; have c11 := hr2.at_ 11 _ rfl)
      | (refine wpl_store_st rfl (.tmp 7) (.tmp 36) rfl HZ.out w2.heap.size en0.cells (eof h b).cells rfl rfl (Row.new _ _ _) ?_ (hid rfl) (hid rfl) (hid (ecells_one (eof h b))); intro w4 hr4 hg4; have hl2 := hr0.lt; have hr0x := (hr0.alloc _).grown hg4 (by intro e; have := Option.some.inj e; omega); have hbb2 := (hbb.alloc hbb.size _).trans (below_grown hg4 hbb.size (by have := hbb.size; simp; omega)); clear hr0 hbb hr2 c2 c3 c4 c6 c7 c8 c9 c11; have hr0 := hr0x; have hbb := hbb2; clear hr0x hbb2 hg4)
      | (refine wpList_load_row rfl 24 (.tmp 7) rfl w2.heap.size rfl 24 (eof h b).cells (0, 0) _ hr4.arr Tryd.underlying24 rfl HZ.out ?_)
      | (go_at_call 38; refine (HP.out _).mono ?_; rintro e w5 ⟨rfl, hb5⟩; have hr4x := hr4.below hb5 hr4.lt; have hr0x := hr0.below hb5 hr0.lt; have hbb5 := hbb.trans (hb5.mono hbb.size); clear hr4 hr0 hbb hb5; have hr4 := hr4x; have hr0 := hr0x; have hbb := hbb5; clear hr4x hr0x hbb5)
      | (refine wpl_store_st rfl (.tmp 2) (.tmp 49) rfl HZ.out w.heap.size en0.cells en0.cells rfl rfl hr0 ?_ (hid rfl) (hid rfl) (hid (ecells_one en0)); intro wz hrz hgz; have HBZ := hid (hbb.trans (below_grown hgz (Nat.le_refl _) hbb.size)); clear hgz))
    refine bodyPost_ret (v := .tuple #[.agg en0.cells, .int .i64 4]) (results_cell1 rfl _ _ w.heap.size 24 en0.cells (0, 0) _ (.int .i64 4) rfl rfl (Row.arr hrz) Tryd.underlying24 rfl HZ.out) rfl ⟨rfl, HBZ.out⟩
theorem r9_any (s : ByteArray) (w : World) (hs : s.size ≤ 1000000) : Calls Tryd.prog 50 #[.string s] w (EE w (unpackE (sb s))) := by
  have HU := hid (fun W => rup_any s W hs)
  obtain ⟨r, hr⟩ : ∃ r, r = unpackS (sb s) := ⟨_, rfl⟩
  unfold unpackE
  rw [← hr] at HU ⊢
  obtain ⟨h, b, f⟩ := r
  simp only
  by_cases h0 : f = 0
  · subst h0
    have hbk := back_iff hr.symm
    have hf := eof_fits ⟨b.toArray⟩ (unpackS_ok hr.symm).2
    have HP := hid (fun W => rpack9_any (eof h ⟨b.toArray⟩) hf W)
    by_cases h1 : Rt (eof h ⟨b.toArray⟩) ∧ hof (eof h ⟨b.toArray⟩) = h
    · rw [if_pos ⟨rfl, h1⟩]
      rw [hbk.2 h1] at HP
      exact r9_good s h ⟨b.toArray⟩ ⟨(sb s).toArray⟩ 0 w rfl (by rw [mk_sb]; simp) HU HP
    · rw [if_neg (fun c => h1 c.2)]
      have hn : packE (eof h ⟨b.toArray⟩) ≠ (sb s, 0) := fun c => h1 (hbk.1 c)
      generalize packE (eof h ⟨b.toArray⟩) = r at HP hn
      refine r9_bad s h ⟨b.toArray⟩ ⟨r.1.toArray⟩ r.2 w ?_ HU HP
      by_cases h2 : r.2 = 0
      · exact .inr ⟨by simp [h2], str_ne (fun c => hn (Prod.ext (by rw [← c, sb_mk]) h2))⟩
      · exact .inl (by simpa using h2)
  · rw [if_neg (fun c => h0 c.1)]
    exact r9_none s h ⟨b.toArray⟩ f w (by simpa using h0) HU
/-! ### EntryReads -/
end Go.Proofs.YtdcoiehhnllhmaaDoor
