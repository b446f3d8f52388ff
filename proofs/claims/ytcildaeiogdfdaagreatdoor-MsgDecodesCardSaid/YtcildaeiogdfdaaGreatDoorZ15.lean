/-
  The walks of the document's Unpack of an entry, of EntryReads.
-/
import Derived.Test.YtcildaeiogdfdaaGreatDoorZ14
import Derived.Test.YtcildaeiogdfdaaGreatDoorZ12
import Derived.Test.YtcildaeiogdfdaaGreatDoorZ03
import Derived.Test.YtcildaeiogdfdaaGreatDoorZ05
namespace Go.Proofs.YtcildaeiogdfdaaGreatDoor
open Go.RowKit
set_option maxRecDepth 10000

theorem unpackS_ok {s : List UInt8} {h : Hd} {b : List UInt8} (e : unpackS s = (h, b, 0)) : packS h b = (s, 0) ∧ h.fits := by
  unfold unpackS at e
  by_cases h1 : s.length < 128
  · rw [if_pos h1] at e
    simp at e
  · rw [if_neg h1] at e
    by_cases h2 : packS (hdOf (takeN (s.take 128))) (s.drop 128) = (s, 0)
    · rw [if_pos h2] at e
      obtain ⟨e1, e2⟩ := Prod.mk.inj e
      obtain ⟨e2, _⟩ := Prod.mk.inj e2
      subst e1 e2
      exact ⟨h2, hdS_fits s (by omega)⟩
    · rw [if_neg h2] at e
      simp at e
theorem eof_fits {h : Hd} (b : ByteArray) (hh : h.fits) : (eof h b).fits := by
  obtain ⟨⟨a1, a2, a3, a4, a5, a6⟩, ⟨b1, b2, b3, b4, b5⟩, hp⟩ := hh
  exact ⟨⟨a4, a5, b4, b1⟩, ⟨b2, b3, a3⟩, hp⟩
theorem back_iff {s : List UInt8} {h : Hd} {b : List UInt8} (e : unpackS s = (h, b, 0)) : packE (eof h ⟨b.toArray⟩) = (s, 0) ↔ (Rt (eof h ⟨b.toArray⟩) ∧ hof (eof h ⟨b.toArray⟩) = h) := by
  obtain ⟨h1, h2⟩ := unpackS_ok e
  have hb : sb (eof h ⟨b.toArray⟩).body = b := sb_mk b
  constructor
  · intro hp
    obtain ⟨p1, p2⟩ := packE_ok hp
    rw [hb] at p2
    exact ⟨p1, (pack_inj (packS_rt (eof_fits _ h2) p1).2 h2 p2 h1).1⟩
  · rintro ⟨p1, p2⟩
    unfold packE
    rw [if_pos p1, hb, p2, h1]
set_option maxHeartbeats 1000000 in
theorem r9_none (s : ByteArray) (h : Hd) (b : ByteArray) (f : Int) (w : World) (hne : (f != 0) = true)
    (HU : Hid (∀ W : World, Calls Tryz.prog 13 #[.string s] W fun x W' => x = .returned (.tuple #[h.val, .string b, .int .i64 f]) ∧ Below W.heap.size W W')) :
    Calls Tryz.prog 36 #[.string s] w (EE w (en0, 4)) := by
  have HZ := hid esize
  have HZH := hid hsize
  have HB0 := hid ((Below.refl w.heap.size w).alloc (Nat.le_refl _) (.cells en0.cells 28))
  have HR0 : Hid (Row (w.alloc (.cells en0.cells 28)) w.heap.size 28 en0.cells.toList) := hid (Row.new _ _ _)
  go_enter Tryz.func36, Tryz.ntmps36
  go_wp2_with (first
    | (go_at_call 13; refine (HU.out _).mono ?_; rintro e w1 ⟨rfl, hb1⟩; have hlt0 := HR0.out.lt; have hr0 := HR0.out.below hb1 hlt0; have hbb := HB0.out.trans (hb1.mono HB0.out.size); clear hb1)
    | (refine wpl_store_head rfl (.tmp 4) (.tmp 13) rfl w1.heap.size h rfl rfl (Row.new _ _ _) ?_; intro w2 hr2 hg2; have hl1 := hr0.lt; have hr0x := (hr0.alloc _).grown hg2 (by intro e; have := Option.some.inj e; omega); have hbb2 := (hbb.alloc hbb.size _).trans (below_grown hg2 hbb.size (by have := hbb.size; simp; omega)); clear hr0 hbb; have hr0 := hr0x; have hbb := hbb2; clear hr0x hbb2 hg2)
    | (refine wpl_store_st rfl (.tmp 2) (.tmp 18) rfl HZ.out w.heap.size en0.cells en0.cells rfl rfl hr0 ?_ (hid rfl) (hid rfl) (hid (ecells_one en0)); intro wz hrz hgz; have HBZ := hid (hbb.trans (below_grown hgz (Nat.le_refl _) hbb.size)); clear hgz))
  refine bodyPost_ret (v := .tuple #[.agg en0.cells, .int .i64 4]) (results_cell1 rfl _ _ w.heap.size 28 en0.cells (0, 0) _ (.int .i64 4) rfl rfl (Row.arr hrz) Tryz.underlying28 rfl HZ.out) rfl ⟨rfl, HBZ.out⟩
set_option maxHeartbeats 2000000 in
theorem r9_good (s : ByteArray) (h : Hd) (b PT : ByteArray) (PE : Int) (w : World) (he : (PE != 0) = false) (hs : (PT.toList == s.toList) = true)
    (HU : Hid (∀ W : World, Calls Tryz.prog 13 #[.string s] W fun x W' => x = .returned (.tuple #[h.val, .string b, .int .i64 0]) ∧ Below W.heap.size W W'))
    (HP : Hid (∀ W : World, Calls Tryz.prog 62 #[.agg (eof h b).cells] W fun x W' => x = .returned (.tuple #[.string PT, .int .i64 PE]) ∧ Below W.heap.size W W')) :
    Calls Tryz.prog 36 #[.string s] w (EE w (eof h b, 0)) := by
  have HZ := hid esize
  have HZH := hid hsize
  have HB0 := hid ((Below.refl w.heap.size w).alloc (Nat.le_refl _) (.cells en0.cells 28))
  have HR0 : Hid (Row (w.alloc (.cells en0.cells 28)) w.heap.size 28 en0.cells.toList) := hid (Row.new _ _ _)
  go_enter Tryz.func36, Tryz.ntmps36
  go_wp2_with (first
    | (go_at_call 13; refine (HU.out _).mono ?_; rintro e w1 ⟨rfl, hb1⟩; have hlt0 := HR0.out.lt; have hr0 := HR0.out.below hb1 hlt0; have hbb := HB0.out.trans (hb1.mono HB0.out.size); clear hb1)
    | (refine wpl_store_head rfl (.tmp 4) (.tmp 13) rfl w1.heap.size h rfl rfl (Row.new _ _ _) ?_; intro w2 hr2 hg2; have hl1 := hr0.lt; have hr0x := (hr0.alloc _).grown hg2 (by intro e; have := Option.some.inj e; omega); have hbb2 := (hbb.alloc hbb.size _).trans (below_grown hg2 hbb.size (by have := hbb.size; simp; omega)); clear hr0 hbb; have hr0 := hr0x; have hbb := hbb2; clear hr0x hbb2 hg2; have c2 := hr2.at_ 2 _ rfl; have c3 := hr2.at_ 3 _ rfl; have c4 := hr2.at_ 4 _ rfl; have c6 := hr2.at_ 6 _ rfl; have c7 := hr2.at_ 7 _ rfl; have c8 := hr2.at_ 8 _ rfl; have c9 := hr2.at_ 9 _ rfl; have c11 := hr2.at_ 11 _ rfl)
    | (refine wpl_store_st rfl (.tmp 7) (.tmp 36) rfl HZ.out w2.heap.size en0.cells (eof h b).cells rfl rfl (Row.new _ _ _) ?_ (hid rfl) (hid rfl) (hid (ecells_one (eof h b))); intro w4 hr4 hg4; have hl2 := hr0.lt; have hr0x := (hr0.alloc _).grown hg4 (by intro e; have := Option.some.inj e; omega); have hbb2 := (hbb.alloc hbb.size _).trans (below_grown hg4 hbb.size (by have := hbb.size; simp; omega)); clear hr0 hbb hr2 c2 c3 c4 c6 c7 c8 c9 c11; have hr0 := hr0x; have hbb := hbb2; clear hr0x hbb2 hg4)
    | (refine wpList_load_row rfl 28 (.tmp 7) rfl w2.heap.size rfl 28 (eof h b).cells (0, 0) _ hr4.arr Tryz.underlying28 rfl HZ.out ?_)
    | (go_at_call 62; refine (HP.out _).mono ?_; rintro e w5 ⟨rfl, hb5⟩; have hr4x := hr4.below hb5 hr4.lt; have hr0x := hr0.below hb5 hr0.lt; have hbb5 := hbb.trans (hb5.mono hbb.size); clear hr4 hr0 hbb hb5; have hr4 := hr4x; have hr0 := hr0x; have hbb := hbb5; clear hr4x hr0x hbb5)
    | (refine wpl_store_st rfl (.tmp 2) (.tmp 50) rfl HZ.out w.heap.size en0.cells (eof h b).cells rfl rfl hr0 ?_ (hid rfl) (hid rfl) (hid (ecells_one (eof h b))); intro wz hrz hgz; have HBZ := hid (hbb.trans (below_grown hgz (Nat.le_refl _) hbb.size)); clear hgz))
  refine bodyPost_ret (v := .tuple #[.agg (eof h b).cells, .int .i64 0]) (results_cell1 rfl _ _ w.heap.size 28 (eof h b).cells (0, 0) _ (.int .i64 0) rfl rfl (Row.arr hrz) Tryz.underlying28 rfl HZ.out) rfl ⟨rfl, HBZ.out⟩
set_option maxHeartbeats 2000000 in
theorem r9_bad (s : ByteArray) (h : Hd) (b PT : ByteArray) (PE : Int) (w : World) (hbad : (PE != 0) = true ∨ ((PE != 0) = false ∧ (PT.toList == s.toList) = false))
    (HU : Hid (∀ W : World, Calls Tryz.prog 13 #[.string s] W fun x W' => x = .returned (.tuple #[h.val, .string b, .int .i64 0]) ∧ Below W.heap.size W W'))
    (HP : Hid (∀ W : World, Calls Tryz.prog 62 #[.agg (eof h b).cells] W fun x W' => x = .returned (.tuple #[.string PT, .int .i64 PE]) ∧ Below W.heap.size W W')) :
    Calls Tryz.prog 36 #[.string s] w (EE w (en0, 4)) := by
  have HZ := hid esize
  have HZH := hid hsize
  have HB0 := hid ((Below.refl w.heap.size w).alloc (Nat.le_refl _) (.cells en0.cells 28))
  have HR0 : Hid (Row (w.alloc (.cells en0.cells 28)) w.heap.size 28 en0.cells.toList) := hid (Row.new _ _ _)
  rcases hbad with he | ⟨he, hs⟩
  · go_enter Tryz.func36, Tryz.ntmps36
    go_wp2_with (first
      | (go_at_call 13; refine (HU.out _).mono ?_; rintro e w1 ⟨rfl, hb1⟩; have hlt0 := HR0.out.lt; have hr0 := HR0.out.below hb1 hlt0; have hbb := HB0.out.trans (hb1.mono HB0.out.size); clear hb1)
      | (refine wpl_store_head rfl (.tmp 4) (.tmp 13) rfl w1.heap.size h rfl rfl (Row.new _ _ _) ?_; intro w2 hr2 hg2; have hl1 := hr0.lt; have hr0x := (hr0.alloc _).grown hg2 (by intro e; have := Option.some.inj e; omega); have hbb2 := (hbb.alloc hbb.size _).trans (below_grown hg2 hbb.size (by have := hbb.size; simp; omega)); clear hr0 hbb; have hr0 := hr0x; have hbb := hbb2; clear hr0x hbb2 hg2; have c2 := hr2.at_ 2 _ rfl; have c3 := hr2.at_ 3 _ rfl; have c4 := hr2.at_ 4 _ rfl; have c6 := hr2.at_ 6 _ rfl; have c7 := hr2.at_ 7 _ rfl; have c8 := hr2.at_ 8 _ rfl; have c9 := hr2.at_ 9 _ rfl; have c11 := hr2.at_ 11 _ rfl)
      | (refine wpl_store_st rfl (.tmp 7) (.tmp 36) rfl HZ.out w2.heap.size en0.cells (eof h b).cells rfl rfl (Row.new _ _ _) ?_ (hid rfl) (hid rfl) (hid (ecells_one (eof h b))); intro w4 hr4 hg4; have hl2 := hr0.lt; have hr0x := (hr0.alloc _).grown hg4 (by intro e; have := Option.some.inj e; omega); have hbb2 := (hbb.alloc hbb.size _).trans (below_grown hg4 hbb.size (by have := hbb.size; simp; omega)); clear hr0 hbb hr2 c2 c3 c4 c6 c7 c8 c9 c11; have hr0 := hr0x; have hbb := hbb2; clear hr0x hbb2 hg4)
      | (refine wpList_load_row rfl 28 (.tmp 7) rfl w2.heap.size rfl 28 (eof h b).cells (0, 0) _ hr4.arr Tryz.underlying28 rfl HZ.out ?_)
      | (go_at_call 62; refine (HP.out _).mono ?_; rintro e w5 ⟨rfl, hb5⟩; have hr4x := hr4.below hb5 hr4.lt; have hr0x := hr0.below hb5 hr0.lt; have hbb5 := hbb.trans (hb5.mono hbb.size); clear hr4 hr0 hbb hb5; have hr4 := hr4x; have hr0 := hr0x; have hbb := hbb5; clear hr4x hr0x hbb5)
      | (refine wpl_store_st rfl (.tmp 2) (.tmp 49) rfl HZ.out w.heap.size en0.cells en0.cells rfl rfl hr0 ?_ (hid rfl) (hid rfl) (hid (ecells_one en0)); intro wz hrz hgz; have HBZ := hid (hbb.trans (below_grown hgz (Nat.le_refl _) hbb.size)); clear hgz))
    refine bodyPost_ret (v := .tuple #[.agg en0.cells, .int .i64 4]) (results_cell1 rfl _ _ w.heap.size 28 en0.cells (0, 0) _ (.int .i64 4) rfl rfl (Row.arr hrz) Tryz.underlying28 rfl HZ.out) rfl ⟨rfl, HBZ.out⟩
  · go_enter Tryz.func36, Tryz.ntmps36
    go_wp2_with (first
      | (go_at_call 13; refine (HU.out _).mono ?_; rintro e w1 ⟨rfl, hb1⟩; have hlt0 := HR0.out.lt; have hr0 := HR0.out.below hb1 hlt0; have hbb := HB0.out.trans (hb1.mono HB0.out.size); clear hb1)
      | (refine wpl_store_head rfl (.tmp 4) (.tmp 13) rfl w1.heap.size h rfl rfl (Row.new _ _ _) ?_; intro w2 hr2 hg2; have hl1 := hr0.lt; have hr0x := (hr0.alloc _).grown hg2 (by intro e; have := Option.some.inj e; omega); have hbb2 := (hbb.alloc hbb.size _).trans (below_grown hg2 hbb.size (by have := hbb.size; simp; omega)); clear hr0 hbb; have hr0 := hr0x; have hbb := hbb2; clear hr0x hbb2 hg2; have c2 := hr2.at_ 2 _ rfl; have c3 := hr2.at_ 3 _ rfl; have c4 := hr2.at_ 4 _ rfl; have c6 := hr2.at_ 6 _ rfl; have c7 := hr2.at_ 7 _ rfl; have c8 := hr2.at_ 8 _ rfl; have c9 := hr2.at_ 9 _ rfl; have c11 := hr2.at_ 11 _ rfl)
      | (refine wpl_store_st rfl (.tmp 7) (.tmp 36) rfl HZ.out w2.heap.size en0.cells (eof h b).cells rfl rfl (Row.new _ _ _) ?_ (hid rfl) (hid rfl) (hid (ecells_one (eof h b))); intro w4 hr4 hg4; have hl2 := hr0.lt; have hr0x := (hr0.alloc _).grown hg4 (by intro e; have := Option.some.inj e; omega); have hbb2 := (hbb.alloc hbb.size _).trans (below_grown hg4 hbb.size (by have := hbb.size; simp; omega)); clear hr0 hbb hr2 c2 c3 c4 c6 c7 c8 c9 c11; have hr0 := hr0x; have hbb := hbb2; clear hr0x hbb2 hg4)
      | (refine wpList_load_row rfl 28 (.tmp 7) rfl w2.heap.size rfl 28 (eof h b).cells (0, 0) _ hr4.arr Tryz.underlying28 rfl HZ.out ?_)
      | (go_at_call 62; refine (HP.out _).mono ?_; rintro e w5 ⟨rfl, hb5⟩; have hr4x := hr4.below hb5 hr4.lt; have hr0x := hr0.below hb5 hr0.lt; have hbb5 := hbb.trans (hb5.mono hbb.size); clear hr4 hr0 hbb hb5; have hr4 := hr4x; have hr0 := hr0x; have hbb := hbb5; clear hr4x hr0x hbb5)
      | (refine wpl_store_st rfl (.tmp 2) (.tmp 49) rfl HZ.out w.heap.size en0.cells en0.cells rfl rfl hr0 ?_ (hid rfl) (hid rfl) (hid (ecells_one en0)); intro wz hrz hgz; have HBZ := hid (hbb.trans (below_grown hgz (Nat.le_refl _) hbb.size)); clear hgz))
    refine bodyPost_ret (v := .tuple #[.agg en0.cells, .int .i64 4]) (results_cell1 rfl _ _ w.heap.size 28 en0.cells (0, 0) _ (.int .i64 4) rfl rfl (Row.arr hrz) Tryz.underlying28 rfl HZ.out) rfl ⟨rfl, HBZ.out⟩
theorem r9_any (s : ByteArray) (w : World) (hs : s.size ≤ 1000000) : Calls Tryz.prog 36 #[.string s] w (EE w (unpackE (sb s))) := by
  have HU := hid (fun W => rup_any s W hs)
  obtain ⟨r, hr⟩ : ∃ r, r = unpackS (sb s) := ⟨_, rfl⟩
  unfold unpackE
  rw [← hr] at HU ⊢
  obtain ⟨h, b, f⟩ := r
  simp only
  by_cases h0 : f = 0
  · subst h0
    have hbk := back_iff hr.symm
    have hf := eof_fits ⟨b.toArray⟩ (unpackS_ok hr.symm).2
    have HP := hid (fun W => rpack9_any (eof h ⟨b.toArray⟩) hf W)
    by_cases h1 : Rt (eof h ⟨b.toArray⟩) ∧ hof (eof h ⟨b.toArray⟩) = h
    · rw [if_pos ⟨rfl, h1⟩]
      rw [hbk.2 h1] at HP
      exact r9_good s h ⟨b.toArray⟩ ⟨(sb s).toArray⟩ 0 w rfl (by rw [mk_sb]; simp) HU HP
    · rw [if_neg (fun c => h1 c.2)]
      have hn : packE (eof h ⟨b.toArray⟩) ≠ (sb s, 0) := fun c => h1 (hbk.1 c)
      generalize packE (eof h ⟨b.toArray⟩) = r at HP hn
      refine r9_bad s h ⟨b.toArray⟩ ⟨r.1.toArray⟩ r.2 w ?_ HU HP
      by_cases h2 : r.2 = 0
      · exact .inr ⟨by simp [h2], str_ne (fun c => hn (Prod.ext (by rw [← c, sb_mk]) h2))⟩
      · exact .inl (by simpa using h2)
  · rw [if_neg (fun c => h0 c.1)]
    exact r9_none s h ⟨b.toArray⟩ f w (by simpa using h0) HU
/-! ### EntryReads -/
end Go.Proofs.YtcildaeiogdfdaaGreatDoor
/-
  The walks of StubOf, package slot's and the document's.
-/
namespace Go.Proofs.YtcildaeiogdfdaaGreatDoor
open Go.RowKit
set_option maxRecDepth 10000

set_option maxHeartbeats 1000000 in
theorem sstub_no (view opn under : Int) (parent : Nat) (client session request oper : Int) (body : ByteArray) (w : World)
    (HR : Hid (∀ W : World, Calls Tryz.prog 48 #[.agg #[.int .i64 view, .int .i64 opn, .int .i64 under, .int .u64 (parent : Int), .int .i64 client, .int .i64 session, .int .i64 request, .int .i64 oper, .string body]] W (VE W (.bool false)))) :
    Calls Tryz.prog 57 #[.agg #[.int .i64 view, .int .i64 opn, .int .i64 under, .int .u64 (parent : Int), .int .i64 client, .int .i64 session, .int .i64 request, .int .i64 oper, .string body]] w (VE w (.agg #[.int .i64 0, .int .i64 0, .int .i64 0, .int .u64 0, .int .u64 0])) := by
  have HZ := hid esize
  have HZM := hid stsize
  have HB0 : Hid (Below w.heap.size w ((w.alloc (.cells #[.int .i64 view, .int .i64 opn, .int .i64 under, .int .u64 (parent : Int), .int .i64 client, .int .i64 session, .int .i64 request, .int .i64 oper, .string body] 28)).alloc (.cells #[.int .i64 0, .int .i64 0, .int .i64 0, .int .u64 0, .int .u64 0] 60))) := hid (((Below.refl w.heap.size w).alloc (Nat.le_refl _) _).alloc (by simp) _)
  have HE0 : Hid (Row ((w.alloc (.cells #[.int .i64 view, .int .i64 opn, .int .i64 under, .int .u64 (parent : Int), .int .i64 client, .int .i64 session, .int .i64 request, .int .i64 oper, .string body] 28)).alloc (.cells #[.int .i64 0, .int .i64 0, .int .i64 0, .int .u64 0, .int .u64 0] 60)) w.heap.size 28 (#[.int .i64 view, .int .i64 opn, .int .i64 under, .int .u64 (parent : Int), .int .i64 client, .int .i64 session, .int .i64 request, .int .i64 oper, .string body] : Array Value).toList) := hid ((Row.new _ _ _).alloc _)
  have HM0 : Hid (Row ((w.alloc (.cells #[.int .i64 view, .int .i64 opn, .int .i64 under, .int .u64 (parent : Int), .int .i64 client, .int .i64 session, .int .i64 request, .int .i64 oper, .string body] 28)).alloc (.cells #[.int .i64 0, .int .i64 0, .int .i64 0, .int .u64 0, .int .u64 0] 60)) (w.heap.size + 1) 60 (#[.int .i64 0, .int .i64 0, .int .i64 0, .int .u64 0, .int .u64 0] : Array Value).toList) := hid (by
    have := Row.new (w.alloc (.cells #[.int .i64 view, .int .i64 opn, .int .i64 under, .int .u64 (parent : Int), .int .i64 client, .int .i64 session, .int .i64 request, .int .i64 oper, .string body] 28)) 60 #[.int .i64 0, .int .i64 0, .int .i64 0, .int .u64 0, .int .u64 0]
    simpa using this)
  have HW0 : Hid (∃ W0, W0 = (w.alloc (.cells #[.int .i64 view, .int .i64 opn, .int .i64 under, .int .u64 (parent : Int), .int .i64 client, .int .i64 session, .int .i64 request, .int .i64 oper, .string body] 28)).alloc (.cells #[.int .i64 0, .int .i64 0, .int .i64 0, .int .u64 0, .int .u64 0] 60)) := hid ⟨_, rfl⟩
  go_enter Tryz.func57, Tryz.ntmps57
  go_wp2_with (first
    | (refine wpList_load_row rfl 28 (.tmp 1) rfl w.heap.size rfl 28 #[.int .i64 view, .int .i64 opn, .int .i64 under, .int .u64 (parent : Int), .int .i64 client, .int .i64 session, .int .i64 request, .int .i64 oper, .string body] (0, 0) _ (Row.arr (cs := #[.int .i64 view, .int .i64 opn, .int .i64 under, .int .u64 (parent : Int), .int .i64 client, .int .i64 session, .int .i64 request, .int .i64 oper, .string body]) HE0.out) Tryz.underlying28 rfl HZ.out ?_)
    | (go_at_call 48; refine (HR.out _).mono ?_; rintro e w1 ⟨rfl, hb1⟩; have hbb := HB0.out.trans (hb1.mono HB0.out.size); have he := HE0.out.below hb1 HE0.out.lt; have hm := HM0.out.below hb1 HM0.out.lt; clear hb1)
    | (refine wpl_store_st rfl (.tmp 2) (.tmp 6) rfl HZM.out (w.heap.size + 1) #[.int .i64 0, .int .i64 0, .int .i64 0, .int .u64 0, .int .u64 0] #[.int .i64 0, .int .i64 0, .int .i64 0, .int .u64 0, .int .u64 0] rfl rfl hm ?_ (hid rfl) (hid rfl) (hid (by simp [Value.oneCell'])); intro wz hrz hgz; have HBZ := hid (hbb.trans (below_grown hgz (by omega) hbb.size)); clear hgz))
  refine bodyPost_ret (v := .agg #[.int .i64 0, .int .i64 0, .int .i64 0, .int .u64 0, .int .u64 0])
    (results_cell_row rfl _ _ (w.heap.size + 1) 60 _ (0, 0) _ rfl (Row.arr (cs := #[.int .i64 0, .int .i64 0, .int .i64 0, .int .u64 0, .int .u64 0]) hrz) Tryz.underlying60 rfl HZM.out) rfl ⟨rfl, HBZ.out⟩
set_option maxHeartbeats 2000000 in
theorem sstub_yes (view opn under : Int) (parent : Nat) (client session request oper : Int) (body : ByteArray) (q : Nat) (w : World) (hf : Fd w)
    (HR : Hid (∀ W : World, Calls Tryz.prog 48 #[.agg #[.int .i64 view, .int .i64 opn, .int .i64 under, .int .u64 (parent : Int), .int .i64 client, .int .i64 session, .int .i64 request, .int .i64 oper, .string body]] W (VE W (.bool true))))
    (HK : Hid (∀ W : World, Fd W → Calls Tryz.prog 85 #[.agg #[.int .i64 view, .int .i64 opn, .int .i64 under, .int .u64 (parent : Int), .int .i64 client, .int .i64 session, .int .i64 request, .int .i64 oper, .string body]] W (VE W (.agg #[.int .i64 opn, .int .i64 view, .int .u64 (q : Int)])))) :
    Calls Tryz.prog 57 #[.agg #[.int .i64 view, .int .i64 opn, .int .i64 under, .int .u64 (parent : Int), .int .i64 client, .int .i64 session, .int .i64 request, .int .i64 oper, .string body]] w (VE w (.agg #[.int .i64 opn, .int .i64 view, .int .i64 under, .int .u64 (parent : Int), .int .u64 (q : Int)])) := by
  have HZ := hid esize
  have HZM := hid stsize
  have HB0 : Hid (Below w.heap.size w ((w.alloc (.cells #[.int .i64 view, .int .i64 opn, .int .i64 under, .int .u64 (parent : Int), .int .i64 client, .int .i64 session, .int .i64 request, .int .i64 oper, .string body] 28)).alloc (.cells #[.int .i64 0, .int .i64 0, .int .i64 0, .int .u64 0, .int .u64 0] 60))) := hid (((Below.refl w.heap.size w).alloc (Nat.le_refl _) _).alloc (by simp) _)
  have HE0 : Hid (Row ((w.alloc (.cells #[.int .i64 view, .int .i64 opn, .int .i64 under, .int .u64 (parent : Int), .int .i64 client, .int .i64 session, .int .i64 request, .int .i64 oper, .string body] 28)).alloc (.cells #[.int .i64 0, .int .i64 0, .int .i64 0, .int .u64 0, .int .u64 0] 60)) w.heap.size 28 (#[.int .i64 view, .int .i64 opn, .int .i64 under, .int .u64 (parent : Int), .int .i64 client, .int .i64 session, .int .i64 request, .int .i64 oper, .string body] : Array Value).toList) := hid ((Row.new _ _ _).alloc _)
  have HM0 : Hid (Row ((w.alloc (.cells #[.int .i64 view, .int .i64 opn, .int .i64 under, .int .u64 (parent : Int), .int .i64 client, .int .i64 session, .int .i64 request, .int .i64 oper, .string body] 28)).alloc (.cells #[.int .i64 0, .int .i64 0, .int .i64 0, .int .u64 0, .int .u64 0] 60)) (w.heap.size + 1) 60 (#[.int .i64 0, .int .i64 0, .int .i64 0, .int .u64 0, .int .u64 0] : Array Value).toList) := hid (by
    have := Row.new (w.alloc (.cells #[.int .i64 view, .int .i64 opn, .int .i64 under, .int .u64 (parent : Int), .int .i64 client, .int .i64 session, .int .i64 request, .int .i64 oper, .string body] 28)) 60 #[.int .i64 0, .int .i64 0, .int .i64 0, .int .u64 0, .int .u64 0]
    simpa using this)
  have HW0 : Hid (∃ W0, W0 = (w.alloc (.cells #[.int .i64 view, .int .i64 opn, .int .i64 under, .int .u64 (parent : Int), .int .i64 client, .int .i64 session, .int .i64 request, .int .i64 oper, .string body] 28)).alloc (.cells #[.int .i64 0, .int .i64 0, .int .i64 0, .int .u64 0, .int .u64 0] 60)) := hid ⟨_, rfl⟩
  have HF := hid hf
  clear hf
  go_enter Tryz.func57, Tryz.ntmps57
  go_wp2_with (first
    | (refine wpList_load_row rfl 28 (.tmp 1) rfl w.heap.size rfl 28 #[.int .i64 view, .int .i64 opn, .int .i64 under, .int .u64 (parent : Int), .int .i64 client, .int .i64 session, .int .i64 request, .int .i64 oper, .string body] (0, 0) _ (Row.arr (cs := #[.int .i64 view, .int .i64 opn, .int .i64 under, .int .u64 (parent : Int), .int .i64 client, .int .i64 session, .int .i64 request, .int .i64 oper, .string body]) HE0.out) Tryz.underlying28 rfl HZ.out ?_)
    | (go_at_call 48; refine (HR.out _).mono ?_; rintro e w1 ⟨rfl, hb1⟩; have hbb := HB0.out.trans (hb1.mono HB0.out.size); have he := HE0.out.below hb1 HE0.out.lt; have hm := HM0.out.below hb1 HM0.out.lt; clear hb1))
  try simp only [Act.put]
  have HBB := hid hbb
  have HEB := hid he
  have HMB := hid hm
  clear hbb he hm
  refine wp_region_held_drew (S := fun W => Below w.heap.size w W ∧ Row W w.heap.size 28 (#[.int .i64 view, .int .i64 opn, .int .i64 under, .int .u64 (parent : Int), .int .i64 client, .int .i64 session, .int .i64 request, .int .i64 oper, .string body] : Array Value).toList ∧ ∃ z : Array Value, z.size = 5 ∧ Row W (w.heap.size + 1) 60 z.toList) (by kernel_rfl) ⟨HBB.out.drew, HEB.out, #[.int .i64 0, .int .i64 0, .int .i64 0, .int .u64 0, .int .u64 0], rfl, HMB.out⟩ (fun hH => ?_)
  refine wpAnyH_take (i := 0) (v := .pointer (some ⟨w.heap.size, 1, none⟩)) rfl (by kernel_rfl) (by kernel_rfl) (by kernel_rfl) (fun _ _ _ h => h) (Or.inl ⟨by rfl, fun w' hw' => by clear hw'; go_simp⟩) hH ?_
  simp only [Act.put]
  refine wpAnyH_take (i := 1) (v := .int .i64 opn) rfl (by kernel_rfl) (by kernel_rfl) (by kernel_rfl) (fun _ _ _ h => h) (Or.inl ⟨by rfl, fun w' hw' => by have h := hw'.2.1.at_ 1 _ rfl; clear hw'; go_simp⟩) hH ?_
  simp only [Act.put]
  refine wpAnyH_take (i := 2) (v := .pointer (some ⟨w.heap.size, 0, none⟩)) rfl (by kernel_rfl) (by kernel_rfl) (by kernel_rfl) (fun _ _ _ h => h) (Or.inl ⟨by rfl, fun w' hw' => by clear hw'; go_simp⟩) hH ?_
  simp only [Act.put]
  refine wpAnyH_take (i := 3) (v := .int .i64 view) rfl (by kernel_rfl) (by kernel_rfl) (by kernel_rfl) (fun _ _ _ h => h) (Or.inl ⟨by rfl, fun w' hw' => by have h := hw'.2.1.at_ 0 _ rfl; clear hw'; go_simp⟩) hH ?_
  simp only [Act.put]
  refine wpAnyH_take (i := 4) (v := .pointer (some ⟨w.heap.size, 2, none⟩)) rfl (by kernel_rfl) (by kernel_rfl) (by kernel_rfl) (fun _ _ _ h => h) (Or.inl ⟨by rfl, fun w' hw' => by clear hw'; go_simp⟩) hH ?_
  simp only [Act.put]
  refine wpAnyH_take (i := 5) (v := .int .i64 under) rfl (by kernel_rfl) (by kernel_rfl) (by kernel_rfl) (fun _ _ _ h => h) (Or.inl ⟨by rfl, fun w' hw' => by have h := hw'.2.1.at_ 2 _ rfl; clear hw'; go_simp⟩) hH ?_
  simp only [Act.put]
  refine wpAnyH_take (i := 6) (v := .pointer (some ⟨w.heap.size, 3, none⟩)) rfl (by kernel_rfl) (by kernel_rfl) (by kernel_rfl) (fun _ _ _ h => h) (Or.inl ⟨by rfl, fun w' hw' => by clear hw'; go_simp⟩) hH ?_
  simp only [Act.put]
  refine wpAnyH_take (i := 7) (v := .int .u64 (parent : Int)) rfl (by kernel_rfl) (by kernel_rfl) (by kernel_rfl) (fun _ _ _ h => h) (Or.inl ⟨by rfl, fun w' hw' => by have h := hw'.2.1.at_ 3 _ rfl; clear hw'; go_simp⟩) hH ?_
  simp only [Act.put]
  refine wpAnyH_take (i := 8) (v := .agg #[.int .i64 view, .int .i64 opn, .int .i64 under, .int .u64 (parent : Int), .int .i64 client, .int .i64 session, .int .i64 request, .int .i64 oper, .string body]) rfl (by kernel_rfl) (by kernel_rfl) (by kernel_rfl) (fun _ _ _ h => h) ?_ hH ?_
  · refine yieldsIf_load_mid ?_ 28 (.tmp 1) ?_ w.heap.size 0 ?_ (Array.toList #[.int .i64 view, .int .i64 opn, .int .i64 under, .int .u64 (parent : Int), .int .i64 client, .int .i64 session, .int .i64 request, .int .i64 oper, .string body]) _ (fun W hW => Row.range (hW.2.1)) Tryz.underlying28 rfl HZ.out
    all_goals kernel_rfl
  simp only [Act.put]
  refine wpAnyH_ready (rs := [9]) (by kernel_rfl) (by simp) ?_
  refine AllReadyH.cons rfl (fun K hK => ?_) AllReadyH.nil
  go_simp
  go_at_call 85
  refine (HK.out _ (HF.out.below hH.1 HF.out.1)).mono ?_
  rintro e w2 ⟨rfl, hb2⟩
  go_wp2_with fail
  refine hK.out _ _ (⟨hH.1.trans (Below.mono hb2 hH.1.size), Row.below hH.2.1 hb2 hH.2.1.lt, hH.2.2.elim fun z h => ⟨z, h.1, Row.below h.2 hb2 h.2.lt⟩⟩) (fun hH => ?_)
  clear hK K
  try simp only [Act.put]
  refine wpAnyH_take (i := 10) (v := .int .u64 (q : Int)) rfl (by kernel_rfl) (by kernel_rfl) (by kernel_rfl) (fun _ _ _ h => h) (Or.inl ⟨by kernel_rfl, fun w' _ => by kernel_rfl⟩) hH ?_
  simp only [Act.put]
  refine wpAnyH_take (i := 11) (v := .agg #[.int .i64 opn, .int .i64 view, .int .i64 under, .int .u64 (parent : Int), .int .u64 (q : Int)]) rfl (by kernel_rfl) (by kernel_rfl) (by kernel_rfl) (fun _ _ _ h => h) (Or.inl ⟨by rfl, fun w' hw' => by clear hw'; go_simp⟩) hH ?_
  simp only [Act.put]
  refine wpAnyH_ready (rs := [12]) (by kernel_rfl) (by simp) ?_
  refine AllReadyH.cons rfl (fun K hK => ?_) AllReadyH.nil
  obtain ⟨hb8, he8, z, hz8, hm8⟩ := hH
  rw [if_pos (by kernel_rfl)]
  refine wp_store_st (.tmp 2) (.tmp 18) rfl HZM.out (w.heap.size + 1) z #[.int .i64 opn, .int .i64 view, .int .i64 under, .int .u64 (parent : Int), .int .u64 (q : Int)] rfl rfl hm8 hz8 rfl (by simp [Value.oneCell']) (fun w9 hr9 hg9 => ?_)
  have hb9 : Below w.heap.size w w9 := hb8.trans (below_grown hg9 (by omega) hb8.size)
  refine hK.out _ _ ⟨hb9, he8.grown hg9 (by intro e; have := Option.some.inj e; omega), _, rfl, hr9⟩ (fun hH => ?_)
  clear hK K
  try simp only [Act.put]
  refine wpAnyH_done (by kernel_rfl) ?_ _
  try simp only [Act.put]
  go_wp2_with fail
  refine bodyPost_ret (v := .agg #[.int .i64 opn, .int .i64 view, .int .i64 under, .int .u64 (parent : Int), .int .u64 (q : Int)])
    (results_cell_row rfl _ _ (w.heap.size + 1) 60 _ (0, 0) _ rfl (Row.arr (cs := #[.int .i64 opn, .int .i64 view, .int .i64 under, .int .u64 (parent : Int), .int .u64 (q : Int)]) hr9) Tryz.underlying60 rfl HZM.out) rfl ⟨rfl, hb9⟩
set_option maxHeartbeats 1000000 in
theorem rstub_no (view opn under : Int) (parent : Nat) (client session request oper : Int) (body : ByteArray) (w : World)
    (HR : Hid (∀ W : World, Calls Tryz.prog 63 #[.agg #[.int .i64 view, .int .i64 opn, .int .i64 under, .int .u64 (parent : Int), .int .i64 client, .int .i64 session, .int .i64 request, .int .i64 oper, .string body]] W (VE W (.bool false)))) :
    Calls Tryz.prog 37 #[.agg #[.int .i64 view, .int .i64 opn, .int .i64 under, .int .u64 (parent : Int), .int .i64 client, .int .i64 session, .int .i64 request, .int .i64 oper, .string body]] w (VE w (.agg #[.int .i64 0, .int .i64 0, .int .i64 0, .int .u64 0, .int .u64 0])) := by
  have HZ := hid esize
  have HZM := hid stsize
  have HB0 : Hid (Below w.heap.size w ((w.alloc (.cells #[.int .i64 view, .int .i64 opn, .int .i64 under, .int .u64 (parent : Int), .int .i64 client, .int .i64 session, .int .i64 request, .int .i64 oper, .string body] 28)).alloc (.cells #[.int .i64 0, .int .i64 0, .int .i64 0, .int .u64 0, .int .u64 0] 60))) := hid (((Below.refl w.heap.size w).alloc (Nat.le_refl _) _).alloc (by simp) _)
  have HE0 : Hid (Row ((w.alloc (.cells #[.int .i64 view, .int .i64 opn, .int .i64 under, .int .u64 (parent : Int), .int .i64 client, .int .i64 session, .int .i64 request, .int .i64 oper, .string body] 28)).alloc (.cells #[.int .i64 0, .int .i64 0, .int .i64 0, .int .u64 0, .int .u64 0] 60)) w.heap.size 28 (#[.int .i64 view, .int .i64 opn, .int .i64 under, .int .u64 (parent : Int), .int .i64 client, .int .i64 session, .int .i64 request, .int .i64 oper, .string body] : Array Value).toList) := hid ((Row.new _ _ _).alloc _)
  have HM0 : Hid (Row ((w.alloc (.cells #[.int .i64 view, .int .i64 opn, .int .i64 under, .int .u64 (parent : Int), .int .i64 client, .int .i64 session, .int .i64 request, .int .i64 oper, .string body] 28)).alloc (.cells #[.int .i64 0, .int .i64 0, .int .i64 0, .int .u64 0, .int .u64 0] 60)) (w.heap.size + 1) 60 (#[.int .i64 0, .int .i64 0, .int .i64 0, .int .u64 0, .int .u64 0] : Array Value).toList) := hid (by
    have := Row.new (w.alloc (.cells #[.int .i64 view, .int .i64 opn, .int .i64 under, .int .u64 (parent : Int), .int .i64 client, .int .i64 session, .int .i64 request, .int .i64 oper, .string body] 28)) 60 #[.int .i64 0, .int .i64 0, .int .i64 0, .int .u64 0, .int .u64 0]
    simpa using this)
  have HW0 : Hid (∃ W0, W0 = (w.alloc (.cells #[.int .i64 view, .int .i64 opn, .int .i64 under, .int .u64 (parent : Int), .int .i64 client, .int .i64 session, .int .i64 request, .int .i64 oper, .string body] 28)).alloc (.cells #[.int .i64 0, .int .i64 0, .int .i64 0, .int .u64 0, .int .u64 0] 60)) := hid ⟨_, rfl⟩
  go_enter Tryz.func37, Tryz.ntmps37
  go_wp2_with (first
    | (refine wpList_load_row rfl 28 (.tmp 1) rfl w.heap.size rfl 28 #[.int .i64 view, .int .i64 opn, .int .i64 under, .int .u64 (parent : Int), .int .i64 client, .int .i64 session, .int .i64 request, .int .i64 oper, .string body] (0, 0) _ (Row.arr (cs := #[.int .i64 view, .int .i64 opn, .int .i64 under, .int .u64 (parent : Int), .int .i64 client, .int .i64 session, .int .i64 request, .int .i64 oper, .string body]) HE0.out) Tryz.underlying28 rfl HZ.out ?_)
    | (go_at_call 63; refine (HR.out _).mono ?_; rintro e w1 ⟨rfl, hb1⟩; have hbb := HB0.out.trans (hb1.mono HB0.out.size); have he := HE0.out.below hb1 HE0.out.lt; have hm := HM0.out.below hb1 HM0.out.lt; clear hb1)
    | (refine wpl_store_st rfl (.tmp 2) (.tmp 6) rfl HZM.out (w.heap.size + 1) #[.int .i64 0, .int .i64 0, .int .i64 0, .int .u64 0, .int .u64 0] #[.int .i64 0, .int .i64 0, .int .i64 0, .int .u64 0, .int .u64 0] rfl rfl hm ?_ (hid rfl) (hid rfl) (hid (by simp [Value.oneCell'])); intro wz hrz hgz; have HBZ := hid (hbb.trans (below_grown hgz (by omega) hbb.size)); clear hgz))
  refine bodyPost_ret (v := .agg #[.int .i64 0, .int .i64 0, .int .i64 0, .int .u64 0, .int .u64 0])
    (results_cell_row rfl _ _ (w.heap.size + 1) 60 _ (0, 0) _ rfl (Row.arr (cs := #[.int .i64 0, .int .i64 0, .int .i64 0, .int .u64 0, .int .u64 0]) hrz) Tryz.underlying60 rfl HZM.out) rfl ⟨rfl, HBZ.out⟩
set_option maxHeartbeats 2000000 in
theorem rstub_yes (view opn under : Int) (parent : Nat) (client session request oper : Int) (body : ByteArray) (q : Nat) (w : World)
    (HR : Hid (∀ W : World, Calls Tryz.prog 63 #[.agg #[.int .i64 view, .int .i64 opn, .int .i64 under, .int .u64 (parent : Int), .int .i64 client, .int .i64 session, .int .i64 request, .int .i64 oper, .string body]] W (VE W (.bool true))))
    (HK : Hid (∀ W : World, Calls Tryz.prog 64 #[.agg #[.int .i64 view, .int .i64 opn, .int .i64 under, .int .u64 (parent : Int), .int .i64 client, .int .i64 session, .int .i64 request, .int .i64 oper, .string body]] W (VE W (.agg #[.int .i64 opn, .int .i64 view, .int .u64 (q : Int)])))) :
    Calls Tryz.prog 37 #[.agg #[.int .i64 view, .int .i64 opn, .int .i64 under, .int .u64 (parent : Int), .int .i64 client, .int .i64 session, .int .i64 request, .int .i64 oper, .string body]] w (VE w (.agg #[.int .i64 opn, .int .i64 view, .int .i64 under, .int .u64 (parent : Int), .int .u64 (q : Int)])) := by
  have HZ := hid esize
  have HZM := hid stsize
  have HB0 : Hid (Below w.heap.size w ((w.alloc (.cells #[.int .i64 view, .int .i64 opn, .int .i64 under, .int .u64 (parent : Int), .int .i64 client, .int .i64 session, .int .i64 request, .int .i64 oper, .string body] 28)).alloc (.cells #[.int .i64 0, .int .i64 0, .int .i64 0, .int .u64 0, .int .u64 0] 60))) := hid (((Below.refl w.heap.size w).alloc (Nat.le_refl _) _).alloc (by simp) _)
  have HE0 : Hid (Row ((w.alloc (.cells #[.int .i64 view, .int .i64 opn, .int .i64 under, .int .u64 (parent : Int), .int .i64 client, .int .i64 session, .int .i64 request, .int .i64 oper, .string body] 28)).alloc (.cells #[.int .i64 0, .int .i64 0, .int .i64 0, .int .u64 0, .int .u64 0] 60)) w.heap.size 28 (#[.int .i64 view, .int .i64 opn, .int .i64 under, .int .u64 (parent : Int), .int .i64 client, .int .i64 session, .int .i64 request, .int .i64 oper, .string body] : Array Value).toList) := hid ((Row.new _ _ _).alloc _)
  have HM0 : Hid (Row ((w.alloc (.cells #[.int .i64 view, .int .i64 opn, .int .i64 under, .int .u64 (parent : Int), .int .i64 client, .int .i64 session, .int .i64 request, .int .i64 oper, .string body] 28)).alloc (.cells #[.int .i64 0, .int .i64 0, .int .i64 0, .int .u64 0, .int .u64 0] 60)) (w.heap.size + 1) 60 (#[.int .i64 0, .int .i64 0, .int .i64 0, .int .u64 0, .int .u64 0] : Array Value).toList) := hid (by
    have := Row.new (w.alloc (.cells #[.int .i64 view, .int .i64 opn, .int .i64 under, .int .u64 (parent : Int), .int .i64 client, .int .i64 session, .int .i64 request, .int .i64 oper, .string body] 28)) 60 #[.int .i64 0, .int .i64 0, .int .i64 0, .int .u64 0, .int .u64 0]
    simpa using this)
  have HW0 : Hid (∃ W0, W0 = (w.alloc (.cells #[.int .i64 view, .int .i64 opn, .int .i64 under, .int .u64 (parent : Int), .int .i64 client, .int .i64 session, .int .i64 request, .int .i64 oper, .string body] 28)).alloc (.cells #[.int .i64 0, .int .i64 0, .int .i64 0, .int .u64 0, .int .u64 0] 60)) := hid ⟨_, rfl⟩
  go_enter Tryz.func37, Tryz.ntmps37
  go_wp2_with (first
    | (refine wpList_load_row rfl 28 (.tmp 1) rfl w.heap.size rfl 28 #[.int .i64 view, .int .i64 opn, .int .i64 under, .int .u64 (parent : Int), .int .i64 client, .int .i64 session, .int .i64 request, .int .i64 oper, .string body] (0, 0) _ (Row.arr (cs := #[.int .i64 view, .int .i64 opn, .int .i64 under, .int .u64 (parent : Int), .int .i64 client, .int .i64 session, .int .i64 request, .int .i64 oper, .string body]) HE0.out) Tryz.underlying28 rfl HZ.out ?_)
    | (go_at_call 63; refine (HR.out _).mono ?_; rintro e w1 ⟨rfl, hb1⟩; have hbb := HB0.out.trans (hb1.mono HB0.out.size); have he := HE0.out.below hb1 HE0.out.lt; have hm := HM0.out.below hb1 HM0.out.lt; clear hb1))
  try simp only [Act.put]
  have HBB := hid hbb
  have HEB := hid he
  have HMB := hid hm
  clear hbb he hm
  refine wp_region_held_drew (S := fun W => Below w.heap.size w W ∧ Row W w.heap.size 28 (#[.int .i64 view, .int .i64 opn, .int .i64 under, .int .u64 (parent : Int), .int .i64 client, .int .i64 session, .int .i64 request, .int .i64 oper, .string body] : Array Value).toList ∧ ∃ z : Array Value, z.size = 5 ∧ Row W (w.heap.size + 1) 60 z.toList) (by kernel_rfl) ⟨HBB.out.drew, HEB.out, #[.int .i64 0, .int .i64 0, .int .i64 0, .int .u64 0, .int .u64 0], rfl, HMB.out⟩ (fun hH => ?_)
  refine wpAnyH_take (i := 0) (v := .pointer (some ⟨w.heap.size, 1, none⟩)) rfl (by kernel_rfl) (by kernel_rfl) (by kernel_rfl) (fun _ _ _ h => h) (Or.inl ⟨by rfl, fun w' hw' => by clear hw'; go_simp⟩) hH ?_
  simp only [Act.put]
  refine wpAnyH_take (i := 1) (v := .int .i64 opn) rfl (by kernel_rfl) (by kernel_rfl) (by kernel_rfl) (fun _ _ _ h => h) (Or.inl ⟨by rfl, fun w' hw' => by have h := hw'.2.1.at_ 1 _ rfl; clear hw'; go_simp⟩) hH ?_
  simp only [Act.put]
  refine wpAnyH_take (i := 2) (v := .pointer (some ⟨w.heap.size, 0, none⟩)) rfl (by kernel_rfl) (by kernel_rfl) (by kernel_rfl) (fun _ _ _ h => h) (Or.inl ⟨by rfl, fun w' hw' => by clear hw'; go_simp⟩) hH ?_
  simp only [Act.put]
  refine wpAnyH_take (i := 3) (v := .int .i64 view) rfl (by kernel_rfl) (by kernel_rfl) (by kernel_rfl) (fun _ _ _ h => h) (Or.inl ⟨by rfl, fun w' hw' => by have h := hw'.2.1.at_ 0 _ rfl; clear hw'; go_simp⟩) hH ?_
  simp only [Act.put]
  refine wpAnyH_take (i := 4) (v := .pointer (some ⟨w.heap.size, 2, none⟩)) rfl (by kernel_rfl) (by kernel_rfl) (by kernel_rfl) (fun _ _ _ h => h) (Or.inl ⟨by rfl, fun w' hw' => by clear hw'; go_simp⟩) hH ?_
  simp only [Act.put]
  refine wpAnyH_take (i := 5) (v := .int .i64 under) rfl (by kernel_rfl) (by kernel_rfl) (by kernel_rfl) (fun _ _ _ h => h) (Or.inl ⟨by rfl, fun w' hw' => by have h := hw'.2.1.at_ 2 _ rfl; clear hw'; go_simp⟩) hH ?_
  simp only [Act.put]
  refine wpAnyH_take (i := 6) (v := .pointer (some ⟨w.heap.size, 3, none⟩)) rfl (by kernel_rfl) (by kernel_rfl) (by kernel_rfl) (fun _ _ _ h => h) (Or.inl ⟨by rfl, fun w' hw' => by clear hw'; go_simp⟩) hH ?_
  simp only [Act.put]
  refine wpAnyH_take (i := 7) (v := .int .u64 (parent : Int)) rfl (by kernel_rfl) (by kernel_rfl) (by kernel_rfl) (fun _ _ _ h => h) (Or.inl ⟨by rfl, fun w' hw' => by have h := hw'.2.1.at_ 3 _ rfl; clear hw'; go_simp⟩) hH ?_
  simp only [Act.put]
  refine wpAnyH_take (i := 8) (v := .agg #[.int .i64 view, .int .i64 opn, .int .i64 under, .int .u64 (parent : Int), .int .i64 client, .int .i64 session, .int .i64 request, .int .i64 oper, .string body]) rfl (by kernel_rfl) (by kernel_rfl) (by kernel_rfl) (fun _ _ _ h => h) ?_ hH ?_
  · refine yieldsIf_load_mid ?_ 28 (.tmp 1) ?_ w.heap.size 0 ?_ (Array.toList #[.int .i64 view, .int .i64 opn, .int .i64 under, .int .u64 (parent : Int), .int .i64 client, .int .i64 session, .int .i64 request, .int .i64 oper, .string body]) _ (fun W hW => Row.range (hW.2.1)) Tryz.underlying28 rfl HZ.out
    all_goals kernel_rfl
  simp only [Act.put]
  refine wpAnyH_ready (rs := [9]) (by kernel_rfl) (by simp) ?_
  refine AllReadyH.cons rfl (fun K hK => ?_) AllReadyH.nil
  go_simp
  go_at_call 64
  refine (HK.out _).mono ?_
  rintro e w2 ⟨rfl, hb2⟩
  go_wp2_with fail
  refine hK.out _ _ (⟨hH.1.trans (Below.mono hb2 hH.1.size), Row.below hH.2.1 hb2 hH.2.1.lt, hH.2.2.elim fun z h => ⟨z, h.1, Row.below h.2 hb2 h.2.lt⟩⟩) (fun hH => ?_)
  clear hK K
  try simp only [Act.put]
  refine wpAnyH_take (i := 10) (v := .int .u64 (q : Int)) rfl (by kernel_rfl) (by kernel_rfl) (by kernel_rfl) (fun _ _ _ h => h) (Or.inl ⟨by kernel_rfl, fun w' _ => by kernel_rfl⟩) hH ?_
  simp only [Act.put]
  refine wpAnyH_take (i := 11) (v := .agg #[.int .i64 opn, .int .i64 view, .int .i64 under, .int .u64 (parent : Int), .int .u64 (q : Int)]) rfl (by kernel_rfl) (by kernel_rfl) (by kernel_rfl) (fun _ _ _ h => h) (Or.inl ⟨by rfl, fun w' hw' => by clear hw'; go_simp⟩) hH ?_
  simp only [Act.put]
  refine wpAnyH_ready (rs := [12]) (by kernel_rfl) (by simp) ?_
  refine AllReadyH.cons rfl (fun K hK => ?_) AllReadyH.nil
  obtain ⟨hb8, he8, z, hz8, hm8⟩ := hH
  rw [if_pos (by kernel_rfl)]
  refine wp_store_st (.tmp 2) (.tmp 18) rfl HZM.out (w.heap.size + 1) z #[.int .i64 opn, .int .i64 view, .int .i64 under, .int .u64 (parent : Int), .int .u64 (q : Int)] rfl rfl hm8 hz8 rfl (by simp [Value.oneCell']) (fun w9 hr9 hg9 => ?_)
  have hb9 : Below w.heap.size w w9 := hb8.trans (below_grown hg9 (by omega) hb8.size)
  refine hK.out _ _ ⟨hb9, he8.grown hg9 (by intro e; have := Option.some.inj e; omega), _, rfl, hr9⟩ (fun hH => ?_)
  clear hK K
  try simp only [Act.put]
  refine wpAnyH_done (by kernel_rfl) ?_ _
  try simp only [Act.put]
  go_wp2_with fail
  refine bodyPost_ret (v := .agg #[.int .i64 opn, .int .i64 view, .int .i64 under, .int .u64 (parent : Int), .int .u64 (q : Int)])
    (results_cell_row rfl _ _ (w.heap.size + 1) 60 _ (0, 0) _ rfl (Row.arr (cs := #[.int .i64 opn, .int .i64 view, .int .i64 under, .int .u64 (parent : Int), .int .u64 (q : Int)]) hr9) Tryz.underlying60 rfl HZM.out) rfl ⟨rfl, hb9⟩
theorem sstub_any (e : En) (he : e.fits) (w : World) (hf : Fd w) : Calls Tryz.prog 57 #[e.val] w (VE w (stubS e).val) := by
  have HR := hid (fun W => eright_any e W)
  by_cases h : Rt e
  · have HK := hid (fun W hW => emark_any e he W hW)
    rw [stubS_rt h]
    rw [decide_eq_true h] at HR
    have em : markE e = ⟨e.opn, e.view, (markE e).sum⟩ := by
      unfold markE
      rw [if_pos ((packE_rt he h).1)]
    rw [em] at HK
    generalize (markE e).sum = q at *
    clear em h
    obtain ⟨view, opn, under, parent, client, session, request, oper, body⟩ := e
    exact sstub_yes view opn under parent client session request oper body q w hf HR HK
  · rw [show stubS e = st0 from if_neg h]
    rw [decide_eq_false h] at HR
    obtain ⟨view, opn, under, parent, client, session, request, oper, body⟩ := e
    exact sstub_no view opn under parent client session request oper body w HR
theorem rstub_any (e : En) (he : e.fits) (w : World) : Calls Tryz.prog 37 #[e.val] w (VE w (stubS e).val) := by
  have HR := hid (fun W => rright9_any e W)
  by_cases h : Rt e
  · have HK := hid (fun W => rmark_any e he W)
    rw [stubS_rt h]
    rw [decide_eq_true h] at HR
    have em : markE e = ⟨e.opn, e.view, (markE e).sum⟩ := by
      unfold markE
      rw [if_pos ((packE_rt he h).1)]
    rw [em] at HK
    generalize (markE e).sum = q at *
    clear em h
    obtain ⟨view, opn, under, parent, client, session, request, oper, body⟩ := e
    exact rstub_yes view opn under parent client session request oper body q w HR HK
  · rw [show stubS e = st0 from if_neg h]
    rw [decide_eq_false h] at HR
    obtain ⟨view, opn, under, parent, client, session, request, oper, body⟩ := e
    exact rstub_no view opn under parent client session request oper body w HR
end Go.Proofs.YtcildaeiogdfdaaGreatDoor
/-
  The walks of the document's Eight, At, fits, Bytes.
-/
namespace Go.Proofs.YtcildaeiogdfdaaGreatDoor
open Go.RowKit
set_option maxRecDepth 10000

theorem rput_eight (W : World) (n B : Nat) (A : Option Addr) (c : Nat) (hn : U64 n) (hr : Rd W B A []) (hB : B ≤ W.heap.size) :
    Calls Tryz.prog 88 #[.slice A 0 c, .int .u64 (n : Int), .int .i64 8] W
    fun e w' => ∃ A c, e = .returned (.tuple #[.slice A 8 c, .int .i64 0]) ∧ Rd w' w'.heap.size A (bvs (le n 8)) ∧ Below W.heap.size W w' := by
  have h := rput_any A [] 0 c n B 8 W hr rfl hB (by omega) (hid hn)
  have e : putS [] n 8 = (le n 8, 0) := by
    unfold putS
    rw [if_pos ⟨by omega, by omega, Nat.div_eq_of_lt (by simpa using hn)⟩]
    rfl
  rw [e] at h
  refine h.mono fun e w' hh => ?_
  obtain ⟨A', c', e1, ho, hb⟩ := BE.len hh (le_len _ _)
  obtain ⟨A2, c2, e2, _, _, hrd⟩ := own_shape ho
  cases e2
  exact ⟨A', c', e1, hrd, hb⟩
set_option maxHeartbeats 400000 in
theorem eight_any (n : Nat) (w : World) (hn : U64 n) : Calls Tryz.prog 68 #[.int .u64 (n : Int)] w (SE w (le n 8)) := by
  have HP := hid (fun W A c B (h1 : Rd W B A []) h2 => rput_eight W n B A c hn h1 h2)
  have HL := hid (le_len 8 n)
  go_enter Tryz.func68, Tryz.ntmps68
  go_wp2_with (first
    | (go_at_call 88; refine (HP.out _ _ _ 0 Rd.nil (Nat.zero_le _)).mono ?_; rintro e w1 ⟨A, c, rfl, hrd, hb⟩)
    | (with_reducible refine wpl_str rfl _ 47 9 rfl 5 Tryz.underlying47 Tryz.underlying5 Tryz.underlying9 A 8 c rfl w1.heap.size (le n 8) ?_ (hid hrd) (hid HL.out.symm)))
  go_ret
  exact ⟨rfl, ((Below.refl _ _).alloc (Nat.le_refl _) _).trans (hb.mono (by simp))⟩
/-- the number at i -/
def at8 (bs : List UInt8) (i : Nat) : Nat := leV ((bs.drop i).take 8)
theorem takeS_eight (bs : List UInt8) (i : Nat) (h : i + 8 ≤ bs.length) : takeS bs i 8 = (at8 bs i, 0) := by
  unfold takeS
  rw [if_neg (by omega), if_neg (by omega)]
  rfl
set_option maxHeartbeats 400000 in
theorem at_any (s : ByteArray) (i : Nat) (w : World) (h : i + 8 ≤ s.size) (hs : s.size ≤ 140737488355328) :
    Calls Tryz.prog 14 #[.string s, .int .i64 (i : Int)] w (VE w (.int .u64 (at8 (sb s) i : Int))) := by
  have HP := hid (fun W A c B (hr : Rd W B A (bvs (sb s))) => by
    have := rtake_any A (sb s) s.size c B i 8 W hr (sb_len s).symm hs
    rw [takeS_eight (sb s) i (by rw [sb_len]; exact h)] at this
    exact this)
  generalize at8 (sb s) i = x at HP
  go_enter Tryz.func14, Tryz.ntmps14
  go_wp2_with (first
    | (with_reducible refine wpl_bytes rfl _ _ _ rfl 5 Tryz.underlying9 Tryz.underlying47 Tryz.underlying5 s rfl ?_; intro g c k0 w1 HG HC HR HB)
    | (go_at_call 34; refine (HP.out w1 _ c (g + 1) (by
        have := (HR.rd (B := g + 1) (by omega)).take (bvs (sb s)).length
        rwa [List.take_left] at this)).mono ?_; rintro e w2 ⟨rfl, hb2⟩))
  go_ret
  exact ⟨rfl, HB.trans (hb2.mono HB.size)⟩
/-- the document's Eight, its text a variable -/
theorem eight_of (n : Nat) (x : Int) (hx : (n : Int) = x) (hn : U64 n) (W : World) : Calls Tryz.prog 68 #[.int .u64 x] W fun e w' => e = .returned (.string ⟨(le n 8).toArray⟩) ∧ Below W.heap.size W w' := by
  subst hx
  exact eight_any n W hn
theorem fits12_any (n l : Int) (b : Bool) (w : World) (h : b = f9 n l) : Calls Tryz.prog 93 #[.int .i64 n, .int .i64 l] w fun e w' => e = .returned (.bool b) ∧ w = w' := by
  subst h
  unfold f9
  by_cases h0 : l ≤ n
  · by_cases h1 : n ≤ 72057594037927935
    · go_enter Tryz.func93, Tryz.ntmps93
      go_wp2
      go_ret
      exact ⟨by simp [h0, h1], rfl⟩
    · go_enter Tryz.func93, Tryz.ntmps93
      go_wp2
      go_ret
      exact ⟨by simp [h1], rfl⟩
  · have h2 : decide (l ≤ n) = false := by simp; omega
    go_enter Tryz.func93, Tryz.ntmps93
    go_wp2
    go_ret
    exact ⟨by first | (simp; done) | (simp; omega), rfl⟩
/-- what Bytes answers -/
def bytesS (s : St) : List UInt8 × Bool := if SRt s then (s.bytes, true) else ([], false)
set_option maxHeartbeats 1000000 in
theorem rbytes_1 (opn view under : Int) (parent sum : Nat) (w : World) (H1 : Hid (∀ W, Calls Tryz.prog 93 #[.int .i64 opn, .int .i64 1] W fun e w' => e = .returned (.bool false) ∧ W = w')) :
    Calls Tryz.prog 70 #[.agg #[.int .i64 opn, .int .i64 view, .int .i64 under, .int .u64 (parent : Int), .int .u64 (sum : Int)]] w fun e w' => e = .returned (.tuple #[.string ⟨#[]⟩, .bool false]) ∧ Below w.heap.size w w' := by
  go_enter Tryz.func70, Tryz.ntmps70
  go_wp2_with (first
    | (go_at_call 93; refine (H1.out _).mono ?_; rintro e w' ⟨rfl, rfl⟩; clear H1))
  go_ret2
  exact ⟨rfl, (Below.refl _ _).alloc (Nat.le_refl _) _⟩
set_option maxHeartbeats 1000000 in
theorem rbytes_2 (opn view under : Int) (parent sum : Nat) (w : World) (H1 : Hid (∀ W, Calls Tryz.prog 93 #[.int .i64 opn, .int .i64 1] W fun e w' => e = .returned (.bool true) ∧ W = w')) (H2 : Hid (∀ W, Calls Tryz.prog 93 #[.int .i64 view, .int .i64 0] W fun e w' => e = .returned (.bool false) ∧ W = w')) :
    Calls Tryz.prog 70 #[.agg #[.int .i64 opn, .int .i64 view, .int .i64 under, .int .u64 (parent : Int), .int .u64 (sum : Int)]] w fun e w' => e = .returned (.tuple #[.string ⟨#[]⟩, .bool false]) ∧ Below w.heap.size w w' := by
  go_enter Tryz.func70, Tryz.ntmps70
  go_wp2_with (first
    | (go_at_call 93; refine (H1.out _).mono ?_; rintro e w' ⟨rfl, rfl⟩; clear H1)
    | (go_at_call 93; refine (H2.out _).mono ?_; rintro e w' ⟨rfl, rfl⟩; clear H2))
  go_ret2
  exact ⟨rfl, (Below.refl _ _).alloc (Nat.le_refl _) _⟩
set_option maxHeartbeats 1000000 in
theorem rbytes_3 (opn view under : Int) (parent sum : Nat) (w : World) (H1 : Hid (∀ W, Calls Tryz.prog 93 #[.int .i64 opn, .int .i64 1] W fun e w' => e = .returned (.bool true) ∧ W = w')) (H2 : Hid (∀ W, Calls Tryz.prog 93 #[.int .i64 view, .int .i64 0] W fun e w' => e = .returned (.bool true) ∧ W = w')) (H3 : Hid (∀ W, Calls Tryz.prog 93 #[.int .i64 under, .int .i64 0] W fun e w' => e = .returned (.bool false) ∧ W = w')) :
    Calls Tryz.prog 70 #[.agg #[.int .i64 opn, .int .i64 view, .int .i64 under, .int .u64 (parent : Int), .int .u64 (sum : Int)]] w fun e w' => e = .returned (.tuple #[.string ⟨#[]⟩, .bool false]) ∧ Below w.heap.size w w' := by
  go_enter Tryz.func70, Tryz.ntmps70
  go_wp2_with (first
    | (go_at_call 93; refine (H1.out _).mono ?_; rintro e w' ⟨rfl, rfl⟩; clear H1)
    | (go_at_call 93; refine (H2.out _).mono ?_; rintro e w' ⟨rfl, rfl⟩; clear H2)
    | (go_at_call 93; refine (H3.out _).mono ?_; rintro e w' ⟨rfl, rfl⟩; clear H3))
  go_ret2
  exact ⟨rfl, (Below.refl _ _).alloc (Nat.le_refl _) _⟩
set_option maxHeartbeats 1000000 in
theorem rbytes_4 (opn view under : Int) (parent sum : Nat) (w : World) (H1 : Hid (∀ W, Calls Tryz.prog 93 #[.int .i64 opn, .int .i64 1] W fun e w' => e = .returned (.bool true) ∧ W = w')) (H2 : Hid (∀ W, Calls Tryz.prog 93 #[.int .i64 view, .int .i64 0] W fun e w' => e = .returned (.bool true) ∧ W = w')) (H3 : Hid (∀ W, Calls Tryz.prog 93 #[.int .i64 under, .int .i64 0] W fun e w' => e = .returned (.bool true) ∧ W = w')) (h4 : view < under) :
    Calls Tryz.prog 70 #[.agg #[.int .i64 opn, .int .i64 view, .int .i64 under, .int .u64 (parent : Int), .int .u64 (sum : Int)]] w fun e w' => e = .returned (.tuple #[.string ⟨#[]⟩, .bool false]) ∧ Below w.heap.size w w' := by
  go_enter Tryz.func70, Tryz.ntmps70
  go_wp2_with (first
    | (go_at_call 93; refine (H1.out _).mono ?_; rintro e w' ⟨rfl, rfl⟩; clear H1)
    | (go_at_call 93; refine (H2.out _).mono ?_; rintro e w' ⟨rfl, rfl⟩; clear H2)
    | (go_at_call 93; refine (H3.out _).mono ?_; rintro e w' ⟨rfl, rfl⟩; clear H3))
  go_ret2
  exact ⟨rfl, (Below.refl _ _).alloc (Nat.le_refl _) _⟩
set_option maxHeartbeats 2000000 in
theorem rbytes_yes (opn view under : Int) (parent sum : Nat) (BS B0 B1 B2 B3 B4 : ByteArray) (w : World) (H1 : Hid (∀ W, Calls Tryz.prog 93 #[.int .i64 opn, .int .i64 1] W fun e w' => e = .returned (.bool true) ∧ W = w')) (H2 : Hid (∀ W, Calls Tryz.prog 93 #[.int .i64 view, .int .i64 0] W fun e w' => e = .returned (.bool true) ∧ W = w')) (H3 : Hid (∀ W, Calls Tryz.prog 93 #[.int .i64 under, .int .i64 0] W fun e w' => e = .returned (.bool true) ∧ W = w')) (h4 : ¬ view < under)
    (HE0 : Hid (∀ W, Calls Tryz.prog 68 #[.int .u64 (IntKind.u64.wrap opn)] W fun e w' => e = .returned (.string B0) ∧ Below W.heap.size W w'))
    (HE1 : Hid (∀ W, Calls Tryz.prog 68 #[.int .u64 (IntKind.u64.wrap view)] W fun e w' => e = .returned (.string B1) ∧ Below W.heap.size W w'))
    (HE2 : Hid (∀ W, Calls Tryz.prog 68 #[.int .u64 (IntKind.u64.wrap under)] W fun e w' => e = .returned (.string B2) ∧ Below W.heap.size W w'))
    (HE3 : Hid (∀ W, Calls Tryz.prog 68 #[.int .u64 (parent : Int)] W fun e w' => e = .returned (.string B3) ∧ Below W.heap.size W w'))
    (HE4 : Hid (∀ W, Calls Tryz.prog 68 #[.int .u64 (sum : Int)] W fun e w' => e = .returned (.string B4) ∧ Below W.heap.size W w'))
    (HX : Hid (B0 ++ B1 ++ B2 ++ B3 ++ B4 = BS)) (HZ : Hid (B0.size = 8 ∧ B1.size = 8 ∧ B2.size = 8 ∧ B3.size = 8 ∧ B4.size = 8)) :
    Calls Tryz.prog 70 #[.agg #[.int .i64 opn, .int .i64 view, .int .i64 under, .int .u64 (parent : Int), .int .u64 (sum : Int)]] w fun e w' => e = .returned (.tuple #[.string BS, .bool true]) ∧ Below w.heap.size w w' := by
  have HRW : Hid (Row (w.alloc (.cells #[.int .i64 opn, .int .i64 view, .int .i64 under, .int .u64 (parent : Int), .int .u64 (sum : Int)] 60)) w.heap.size 60 (#[.int .i64 opn, .int .i64 view, .int .i64 under, .int .u64 (parent : Int), .int .u64 (sum : Int)] : Array Value).toList) := hid (Row.new _ _ _)
  have HB0 := hid ((Below.refl w.heap.size w).alloc (Nat.le_refl _) (.cells #[.int .i64 opn, .int .i64 view, .int .i64 under, .int .u64 (parent : Int), .int .u64 (sum : Int)] 60))
  have HC : Hid (∀ j v, (#[.int .i64 opn, .int .i64 view, .int .i64 under, .int .u64 (parent : Int), .int .u64 (sum : Int)] : Array Value).toList[j]? = some v → ∀ W, Below (w.alloc (.cells #[.int .i64 opn, .int .i64 view, .int .i64 under, .int .u64 (parent : Int), .int .u64 (sum : Int)] 60)).heap.size (w.alloc (.cells #[.int .i64 opn, .int .i64 view, .int .i64 under, .int .u64 (parent : Int), .int .u64 (sum : Int)] 60)) W → W.cell? ⟨w.heap.size, j, none⟩ = some v) := hid fun j v hv W hW => by
    rw [(HRW.out.below hW HRW.out.lt).cell]
    exact hv
  have HC0 := hid (HC.out 0 _ rfl)
  have HC1 := hid (HC.out 1 _ rfl)
  have HC2 := hid (HC.out 2 _ rfl)
  have HC3 := hid (HC.out 3 _ rfl)
  have HC4 := hid (HC.out 4 _ rfl)
  clear HC
  have hnl : decide (view < under) = false := by simpa using h4
  clear h4
  obtain ⟨W0, hW0⟩ : ∃ W0, W0 = w.alloc (.cells #[.int .i64 opn, .int .i64 view, .int .i64 under, .int .u64 (parent : Int), .int .u64 (sum : Int)] 60) := ⟨_, rfl⟩
  rw [← hW0] at HRW HB0 HC0 HC1 HC2 HC3 HC4
  have HW0 := hid hW0
  clear hW0
  go_enter Tryz.func70, Tryz.ntmps70
  go_wp2_with (first
    | (go_at_call 93; refine (H1.out _).mono ?_; rintro e w' ⟨rfl, rfl⟩; clear H1)
    | (go_at_call 93; refine (H2.out _).mono ?_; rintro e w' ⟨rfl, rfl⟩; clear H2)
    | (go_at_call 93; refine (H3.out _).mono ?_; rintro e w' ⟨rfl, rfl⟩; clear H3))
  rw [← HW0.out]
  clear HRW
  obtain ⟨z0, z1, z2, z3, z4⟩ := HZ.out
  have hq2 : ¬ (9223372036854775807 < B0.size + B1.size) := by omega
  have hq3 : ¬ (9223372036854775807 < B0.size + B1.size + B2.size) := by omega
  have hq4 : ¬ (9223372036854775807 < B0.size + B1.size + B2.size + B3.size) := by omega
  have hq5 : ¬ (9223372036854775807 < B0.size + B1.size + B2.size + B3.size + B4.size) := by omega
  clear z0 z1 z2 z3 z4
  refine wp_region_held_drew (S := fun W => Below W0.heap.size W0 W) (by kernel_rfl) ((Below.refl _ _).drew) (fun hH => ?_)
  refine wpAnyH_take (i := 0) (v := .pointer (some ⟨w.heap.size, 0, none⟩)) rfl (by kernel_rfl) (by kernel_rfl) (by kernel_rfl) (fun _ _ _ h => h) (Or.inl ⟨by rfl, fun w' hw' => by clear hw'; go_simp⟩) hH ?_
  simp only [Act.put]
  refine wpAnyH_take (i := 1) (v := .int .i64 opn) rfl (by kernel_rfl) (by kernel_rfl) (by kernel_rfl) (fun _ _ _ h => h) (Or.inl ⟨by rfl, fun w' hw' => by have h := HC0.out w' hw'; go_simp⟩) hH ?_
  simp only [Act.put]
  refine wpAnyH_take (i := 2) (v := .int .u64 (IntKind.u64.wrap opn)) rfl (by kernel_rfl) (by kernel_rfl) (by kernel_rfl) (fun _ _ _ h => h) (Or.inl ⟨by rfl, fun w' hw' => by clear hw'; go_simp⟩) hH ?_
  simp only [Act.put]
  refine wpAnyH_take (i := 4) (v := .pointer (some ⟨w.heap.size, 1, none⟩)) rfl (by kernel_rfl) (by kernel_rfl) (by kernel_rfl) (fun _ _ _ h => h) (Or.inl ⟨by rfl, fun w' hw' => by clear hw'; go_simp⟩) hH ?_
  simp only [Act.put]
  refine wpAnyH_take (i := 5) (v := .int .i64 view) rfl (by kernel_rfl) (by kernel_rfl) (by kernel_rfl) (fun _ _ _ h => h) (Or.inl ⟨by rfl, fun w' hw' => by have h := HC1.out w' hw'; go_simp⟩) hH ?_
  simp only [Act.put]
  refine wpAnyH_take (i := 6) (v := .int .u64 (IntKind.u64.wrap view)) rfl (by kernel_rfl) (by kernel_rfl) (by kernel_rfl) (fun _ _ _ h => h) (Or.inl ⟨by rfl, fun w' hw' => by clear hw'; go_simp⟩) hH ?_
  simp only [Act.put]
  refine wpAnyH_take (i := 9) (v := .pointer (some ⟨w.heap.size, 2, none⟩)) rfl (by kernel_rfl) (by kernel_rfl) (by kernel_rfl) (fun _ _ _ h => h) (Or.inl ⟨by rfl, fun w' hw' => by clear hw'; go_simp⟩) hH ?_
  simp only [Act.put]
  refine wpAnyH_take (i := 10) (v := .int .i64 under) rfl (by kernel_rfl) (by kernel_rfl) (by kernel_rfl) (fun _ _ _ h => h) (Or.inl ⟨by rfl, fun w' hw' => by have h := HC2.out w' hw'; go_simp⟩) hH ?_
  simp only [Act.put]
  refine wpAnyH_take (i := 11) (v := .int .u64 (IntKind.u64.wrap under)) rfl (by kernel_rfl) (by kernel_rfl) (by kernel_rfl) (fun _ _ _ h => h) (Or.inl ⟨by rfl, fun w' hw' => by clear hw'; go_simp⟩) hH ?_
  simp only [Act.put]
  refine wpAnyH_take (i := 14) (v := .pointer (some ⟨w.heap.size, 3, none⟩)) rfl (by kernel_rfl) (by kernel_rfl) (by kernel_rfl) (fun _ _ _ h => h) (Or.inl ⟨by rfl, fun w' hw' => by clear hw'; go_simp⟩) hH ?_
  simp only [Act.put]
  refine wpAnyH_take (i := 15) (v := .int .u64 (parent : Int)) rfl (by kernel_rfl) (by kernel_rfl) (by kernel_rfl) (fun _ _ _ h => h) (Or.inl ⟨by rfl, fun w' hw' => by have h := HC3.out w' hw'; go_simp⟩) hH ?_
  simp only [Act.put]
  refine wpAnyH_take (i := 18) (v := .pointer (some ⟨w.heap.size, 4, none⟩)) rfl (by kernel_rfl) (by kernel_rfl) (by kernel_rfl) (fun _ _ _ h => h) (Or.inl ⟨by rfl, fun w' hw' => by clear hw'; go_simp⟩) hH ?_
  simp only [Act.put]
  refine wpAnyH_take (i := 19) (v := .int .u64 (sum : Int)) rfl (by kernel_rfl) (by kernel_rfl) (by kernel_rfl) (fun _ _ _ h => h) (Or.inl ⟨by rfl, fun w' hw' => by have h := HC4.out w' hw'; go_simp⟩) hH ?_
  simp only [Act.put]
  refine wpAnyH_ready (rs := [3]) (by kernel_rfl) (by simp) ?_
  refine AllReadyH.cons rfl (fun K hK => ?_) AllReadyH.nil
  go_simp
  go_at_call 68
  refine (HE0.out _).mono ?_
  rintro e w2 ⟨rfl, hb2⟩
  go_wp2_with fail
  refine hK.out _ _ (hH.trans (hb2.mono hH.size)) (fun hH => ?_)
  clear hK K
  try simp only [Act.put]
  refine wpAnyH_ready (rs := [7]) (by kernel_rfl) (by simp) ?_
  refine AllReadyH.cons rfl (fun K hK => ?_) AllReadyH.nil
  go_simp
  go_at_call 68
  refine (HE1.out _).mono ?_
  rintro e w3 ⟨rfl, hb3⟩
  go_wp2_with fail
  refine hK.out _ _ (hH.trans (hb3.mono hH.size)) (fun hH => ?_)
  clear hK K
  try simp only [Act.put]
  refine wpAnyH_take (i := 8) (v := .string (B0 ++ B1)) rfl (by kernel_rfl) (by kernel_rfl) (by kernel_rfl) (fun _ _ _ h => h) (Or.inl ⟨by rfl, fun w' hw' => by clear hw'; go_simp⟩) hH ?_
  simp only [Act.put]
  refine wpAnyH_ready (rs := [12]) (by kernel_rfl) (by simp) ?_
  refine AllReadyH.cons rfl (fun K hK => ?_) AllReadyH.nil
  go_simp
  go_at_call 68
  refine (HE2.out _).mono ?_
  rintro e w4 ⟨rfl, hb4⟩
  go_wp2_with fail
  refine hK.out _ _ (hH.trans (hb4.mono hH.size)) (fun hH => ?_)
  clear hK K
  try simp only [Act.put]
  refine wpAnyH_take (i := 13) (v := .string (B0 ++ B1 ++ B2)) rfl (by kernel_rfl) (by kernel_rfl) (by kernel_rfl) (fun _ _ _ h => h) (Or.inl ⟨by rfl, fun w' hw' => by clear hw'; go_simp⟩) hH ?_
  simp only [Act.put]
  refine wpAnyH_ready (rs := [16]) (by kernel_rfl) (by simp) ?_
  refine AllReadyH.cons rfl (fun K hK => ?_) AllReadyH.nil
  go_simp
  go_at_call 68
  refine (HE3.out _).mono ?_
  rintro e w5 ⟨rfl, hb5⟩
  go_wp2_with fail
  refine hK.out _ _ (hH.trans (hb5.mono hH.size)) (fun hH => ?_)
  clear hK K
  try simp only [Act.put]
  refine wpAnyH_take (i := 17) (v := .string (B0 ++ B1 ++ B2 ++ B3)) rfl (by kernel_rfl) (by kernel_rfl) (by kernel_rfl) (fun _ _ _ h => h) (Or.inl ⟨by rfl, fun w' hw' => by clear hw'; go_simp⟩) hH ?_
  simp only [Act.put]
  refine wpAnyH_ready (rs := [20]) (by kernel_rfl) (by simp) ?_
  refine AllReadyH.cons rfl (fun K hK => ?_) AllReadyH.nil
  go_simp
  go_at_call 68
  refine (HE4.out _).mono ?_
  rintro e w6 ⟨rfl, hb6⟩
  go_wp2_with fail
  refine hK.out _ _ (hH.trans (hb6.mono hH.size)) (fun hH => ?_)
  clear hK K
  try simp only [Act.put]
  refine wpAnyH_take (i := 21) (v := .string (B0 ++ B1 ++ B2 ++ B3 ++ B4)) rfl (by kernel_rfl) (by kernel_rfl) (by kernel_rfl) (fun _ _ _ h => h) (Or.inl ⟨by rfl, fun w' hw' => by clear hw'; go_simp⟩) hH ?_
  simp only [Act.put]
  refine wpAnyH_ready (rs := [22]) (by kernel_rfl) (by simp) ?_
  refine AllReadyH.cons rfl (fun K hK => ?_) AllReadyH.nil
  go_simp
  refine hK.out _ _ (hH) (fun hH => ?_)
  clear hK K
  try simp only [Act.put]
  refine wpAnyH_ready (rs := [23]) (by kernel_rfl) (by simp) ?_
  refine AllReadyH.cons rfl (fun K hK => ?_) AllReadyH.nil
  go_simp
  refine hK.out _ _ (hH) (fun hH => ?_)
  clear hK K
  try simp only [Act.put]
  refine wpAnyH_done (by kernel_rfl) ?_ _
  try simp only [Act.put]
  go_wp2_with fail
  rw [HX.out]
  go_ret2
  exact ⟨rfl, HB0.out.trans (hH.mono HB0.out.size)⟩
theorem srt_f9 (s : St) : SRt s ↔ f9 s.opn 1 = true ∧ f9 s.view 0 = true ∧ f9 s.under 0 = true ∧ ¬ s.view < s.under := by
  unfold SRt f9
  simp only [decide_eq_true_eq]
  omega
theorem rbyT_any (s : St) (hf : s.fits) (w : World) : Calls Tryz.prog 70 #[s.val] w fun e w' => e = .returned (.tuple #[.string ⟨(bytesS s).1.toArray⟩, .bool (bytesS s).2]) ∧ Below w.heap.size w w' := by
  have H1 := hid (fun W => fits12_any s.opn 1 _ W rfl)
  have H2 := hid (fun W => fits12_any s.view 0 _ W rfl)
  have H3 := hid (fun W => fits12_any s.under 0 _ W rfl)
  have hi := srt_f9 s
  obtain ⟨opn, view, under, parent, sum⟩ := s
  simp only at H1 H2 H3 hi
  by_cases h : SRt ⟨opn, view, under, parent, sum⟩
  · obtain ⟨a1, a2, a3, a4⟩ := hi.1 h
    rw [a1] at H1
    rw [a2] at H2
    rw [a3] at H3
    have e : bytesS ⟨opn, view, under, parent, sum⟩ = (le (un opn) 8 ++ le (un view) 8 ++ le (un under) 8 ++ le parent 8 ++ le sum 8, true) := by
      unfold bytesS
      rw [if_pos h]
      simp [St.bytes, St.nums, nb]
    rw [e]
    obtain ⟨-, h4, h5⟩ := hf
    refine rbytes_yes opn view under parent sum _ ⟨(le (un opn) 8).toArray⟩ ⟨(le (un view) 8).toArray⟩ ⟨(le (un under) 8).toArray⟩ ⟨(le parent 8).toArray⟩ ⟨(le sum 8).toArray⟩ w H1 H2 H3 a4 (hid fun W => eight_of _ _ (un_wrap opn).symm (un_lt _) W) (hid fun W => eight_of _ _ (un_wrap view).symm (un_lt _) W) (hid fun W => eight_of _ _ (un_wrap under).symm (un_lt _) W) (hid fun W => eight_of _ _ rfl h4 W) (hid fun W => eight_of _ _ rfl h5 W) (hid ?_) (hid ?_)
    · rw [cat_mk, cat_mk, cat_mk, cat_mk]
    · have hs : ∀ n, (⟨(le n 8).toArray⟩ : ByteArray).size = 8 := fun n => by
        rw [← sb_len, sb_mk, le_len]
      exact ⟨hs _, hs _, hs _, hs _, hs _⟩
  · have e : bytesS ⟨opn, view, under, parent, sum⟩ = ([], false) := if_neg h
    rw [e]
    by_cases a1 : f9 opn 1 = true
    · rw [a1] at H1
      by_cases a2 : f9 view 0 = true
      · rw [a2] at H2
        by_cases a3 : f9 under 0 = true
        · rw [a3] at H3
          exact rbytes_4 opn view under parent sum w H1 H2 H3 (Decidable.not_not.1 fun a4 => h (hi.2 ⟨a1, a2, a3, a4⟩))
        · rw [Bool.eq_false_iff.2 a3] at H3
          exact rbytes_3 opn view under parent sum w H1 H2 H3
      · rw [Bool.eq_false_iff.2 a2] at H2
        exact rbytes_2 opn view under parent sum w H1 H2
    · rw [Bool.eq_false_iff.2 a1] at H1
      exact rbytes_1 opn view under parent sum w H1
end Go.Proofs.YtcildaeiogdfdaaGreatDoor
/-
  The walks of Prepare, Header, Void, package slot's and the document's.
-/
namespace Go.Proofs.YtcildaeiogdfdaaGreatDoor
open Go.RowKit
set_option maxRecDepth 10000

theorem shdr_no (C : Array Value) (old : ByteArray) (T : List UInt8)  (w : World) (HSZ : Hid (C.size = 5)) 
    (HP : Hid (∀ W : World, Calls Tryz.prog 103 #[.agg C] W fun e w' => e = .returned (.tuple #[.string ⟨T.toArray⟩, .int .i64 4]) ∧ Below W.heap.size W w')) :
    Calls Tryz.prog 97 #[.string old, .agg C] w (SN w ([], 4)) := by
  have HZS := hid stsize
  go_enter Tryz.func97, Tryz.ntmps97
  go_wp2_with (first
    | (refine wpList_load_row rfl 60 (.tmp 3) rfl w.heap.size rfl 60 C (0, 0) _ (heap_alloc_new _ _) Tryz.underlying60 rfl (by rw [HSZ.out]; exact HZS.out) ?_)
    | (go_at_call 103; refine (HP.out _).mono ?_; rintro e w1 ⟨rfl, hb1⟩))
  go_ret2
  exact ⟨rfl, ((Below.refl _ _).alloc (Nat.le_refl _) _).trans (hb1.mono (by simp))⟩
theorem shdr_yes (C : Array Value) (old : ByteArray) (T : List UInt8) (r : List UInt8 × Int) (w : World) (HSZ : Hid (C.size = 5))
    (HP : Hid (∀ W : World, Calls Tryz.prog 103 #[.agg C] W fun e w' => e = .returned (.tuple #[.string ⟨T.toArray⟩, .int .i64 0]) ∧ Below W.heap.size W w'))
    (HS : Hid (∀ W : World, Calls Tryz.prog 104 #[.string old, .string ⟨T.toArray⟩] W (SN W r))) :
    Calls Tryz.prog 97 #[.string old, .agg C] w (SN w r) := by
  have HZS := hid stsize
  go_enter Tryz.func97, Tryz.ntmps97
  go_wp2_with (first
    | (refine wpList_load_row rfl 60 (.tmp 3) rfl w.heap.size rfl 60 C (0, 0) _ (heap_alloc_new _ _) Tryz.underlying60 rfl (by rw [HSZ.out]; exact HZS.out) ?_)
    | (go_at_call 103; refine (HP.out _).mono ?_; rintro e w1 ⟨rfl, hb1⟩)
    | (go_at_call 104; refine (HS.out _).mono ?_; rintro e w2 ⟨rfl, hb2⟩))
  go_ret2
  exact ⟨rfl, (((Below.refl _ _).alloc (Nat.le_refl _) _).trans (hb1.mono (by simp))).trans (hb2.mono (by have := hb1.size; simp at this; omega))⟩
theorem shdr_any (old : ByteArray) (s : St) (hs : s.fits) (hold : old.size ≤ 1125899906842624) (w : World) : Calls Tryz.prog 97 #[.string old, s.val] w (SN w (hdrS (sb old) s)) := by
  have HSZ : Hid (s.cells.size = 5) := hid rfl
  have HP := hid (fun W => spackT_any s hs W)
  unfold hdrS
  unfold packT at HP
  by_cases h0 : SRt s
  · rw [if_pos h0] at HP ⊢
    have HS := hid (fun W => seal_calls old ⟨s.bytes.toArray⟩ W hold)
    rw [sb_mk] at HS
    exact shdr_yes s.cells old _ _ w HSZ HP HS
  · rw [if_neg h0] at HP ⊢
    exact shdr_no s.cells old _ w HSZ HP
end Go.Proofs.YtcildaeiogdfdaaGreatDoor
