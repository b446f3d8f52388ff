/-
  The walk of package journal's Put.
-/
import Derived.Test.YtafbeepacncooaaDoorM22
namespace Go.Proofs.YtafbeepacncooaaDoor
open Go.RowKit
set_option maxRecDepth 10000

theorem wf_entry {n : Int} {x : It} (h : WfI n x) {e : En} (hr : Rt e) : x.entry = e → x.kind = 1 ∧ x = ⟨1, stubS e, e⟩ := by
  intro he
  rcases h with rfl | ⟨y, _, _, _, rfl⟩ | ⟨s, _, _, _, rfl⟩ | rfl
  · rw [← he] at hr
    exact absurd hr (by show ¬ Rt en0; unfold Rt en0; decide)
  · obtain rfl : y = e := he
    exact ⟨rfl, rfl⟩
  · rw [← he] at hr
    exact absurd hr (by show ¬ Rt en0; unfold Rt en0; decide)
  · rw [← he] at hr
    exact absurd hr (by show ¬ Rt en0; unfold Rt en0; decide)
theorem rt_body {e : En} (h : Rt e) : e.body.size ≤ 200 := by
  unfold Rt at h
  omega
open Classical in
/-- what Put lays -/
noncomputable def putL13 (x : It) (e : En) : List Lay := if x.entry = e then [] else putP x e
theorem for_any {w0 w : World} {jp p gs : Nat} {S : Sp} {J : Jn} {G : List Nat} (h : Jd w0 w jp p gs S J G) (s : Nat) (hs : s < 8) (x : It) (e : En) (he : e.fits) (hr : Rt e) (hn : e.opn % 8 = s) (_hx : WfI e.opn x) :
    Calls Tryd.prog 41 #[.int .i64 (s : Int), .agg x.cells, .agg e.cells, .agg (stubS e).cells] w (LF w0 w jp p gs S J G (putL13 x e)) := by
  have hpn : pN e.opn = 4 + s := by unfold pN; omega
  have hhn : hN e.opn = 12 + s := by unfold hN; omega
  have hhs : hN (stubS e).opn = 12 + s := by rw [show (stubS e).opn = e.opn by rw [stubS_rt hr]]; exact hhn
  unfold putL13
  by_cases h1 : x.entry = e
  · rw [if_pos h1]
    exact for_same h s hs x e (stubS e) he hr (stubS_fits he) (stubS_ok hr) hpn hhs h1
  · rw [if_neg h1]
    unfold putP
    by_cases k2 : x.kind = 2
    · by_cases hst : x.stub = stubS e
      · rw [if_neg (fun q => q.elim (fun q => by rw [q] at k2; cases k2) (fun q => q.2 hst)), if_pos ⟨k2, hst⟩]
        exact for_one h s hs x e (stubS e) he hr (stubS_fits he) (stubS_ok hr) hpn hhs h1 k2 hst
      · rw [if_pos (.inr ⟨k2, hst⟩), if_neg (fun q => hst q.2), hhn]
        exact for_other h s hs x e (stubS e) he hr (stubS_fits he) (stubS_ok hr) hpn hhs h1 k2 hst
    · by_cases k1 : x.kind = 1
      · rw [if_pos (.inl k1), if_neg (fun q => k2 q.1), hhn]
        exact for_held h s hs x e (stubS e) he hr (stubS_fits he) (stubS_ok hr) hpn hhs h1 k1
      · rw [if_neg (fun q => q.elim k1 (fun q => k2 q.1)), if_neg (fun q => k2 q.1)]
        exact for_both h s hs x e (stubS e) he hr (stubS_fits he) (stubS_ok hr) hpn hhs h1 k1 k2
theorem putP_len (x : It) (e : En) : (putP x e).length ≤ 3 := by
  unfold putP
  rw [List.length_append, List.length_append]
  have h1 : ∀ (c : Prop) [Decidable c] (x : Lay), (if c then [x] else []).length ≤ 1 := fun c _ x => by split <;> simp
  have h2 : ∀ (c : Prop) [Decidable c] (x : Lay), (if c then [] else [x]).length ≤ 1 := fun c _ x => by split <;> simp
  exact Nat.add_le_add (Nat.add_le_add (h1 _ _) (Nat.le_refl _)) (h2 _ _)
theorem put_eq {S : Sp} {J : Jn} (hw : JWf J) {e : En} (hr : Rt e) (hh : J.has e.opn) : putJ S J e = if (layL S (putL13 (J.item e.opn) e)).2 = 0 then ((layL S (putL13 (J.item e.opn) e)).1, J.set e.opn ⟨1, stubS e, e⟩, 0) else ((layL S (putL13 (J.item e.opn) e)).1, J, (layL S (putL13 (J.item e.opn) e)).2) := by
  have hi := hw.it _ hh
  unfold putJ
  rw [if_neg (not_not_intro hr), if_neg (not_not_intro hh)]
  unfold putL13
  by_cases he : (J.item e.opn).entry = e
  · obtain ⟨k1, k2⟩ := wf_entry hi hr he
    rw [if_pos he, if_pos ⟨k1, he⟩]
    show _ = if (S, (0 : Int)).2 = 0 then (S, J.set e.opn ⟨1, stubS e, e⟩, 0) else _
    rw [if_pos rfl, ← k2, jset_same hw.len hh]
  · rw [if_neg he, if_neg (fun q => he q.2)]
theorem stub_zero (e : En) : stubS e = st0 ↔ ¬ Rt e := by
  refine ⟨fun h hr => ?_, fun h => by unfold stubS; rw [if_neg h]⟩
  have := stubS_ok hr
  rw [h] at this
  exact st0_not this
theorem put_nil13 (e : En) (w : World) : Calls Tryd.prog 19 #[.pointer none, .agg e.cells] w fun x w' => x = .returned (.int .i64 2) ∧ Below w.heap.size w w' := by
  go_enter Tryd.func19, Tryd.ntmps19
  go_wp2_with fail
  go_ret
  exact ⟨rfl, (Below.refl _ _).alloc (Nat.le_refl _) _⟩
set_option maxHeartbeats 4000000 in
theorem put_formj {w0 w : World} {jp p gs : Nat} {S : Sp} {J : Jn} {G : List Nat} (h : Jd w0 w jp p gs S J G) (_hw : JWf J) (e : En) (hf : e.fits) (hr : ¬ Rt e) (_hc : S.count ≤ 900000) :
    Calls Tryd.prog 19 #[.pointer (some ⟨jp, 0, none⟩), .agg e.cells] w (JC w0 w jp p gs S J G (.int .i64 4)) := by
  have HZE := hid esize
  have HZS := hid stsize
  have HSE : Hid (∀ t : En, t.cells.size = 9) := hid fun t => rfl
  have HSS : Hid (∀ t : St, t.cells.size = 5) := hid fun t => rfl
  have HOS : Hid (∀ t : St, t.cells.all (·.oneCell') = true) := hid stubs_one
  have HST : Hid (∀ W, Fd W → Calls Tryd.prog 13 #[.agg e.cells] W (VE W (.agg (stubS e).cells))) := hid fun W hW => sstub_any e hf W hW
  have HA := hid (h.alloc (.cells e.cells 28)).1
  have HK := hid (h.alloc (.cells e.cells 28)).2
  have HRA : Hid (Row (w.alloc (.cells e.cells 28)) w.heap.size 28 e.cells.toList) := hid (Row.new _ _ _)
  have hz := (stub_zero e).2 hr
  generalize stubS e = t at *
  have HEQ := hid (show decide (t = st0) = true by simp [hz])
  clear h _hw hf hr _hc hz
  go_enter Tryd.func19, Tryd.ntmps19
  go_wp2_with (first
    | (refine wpList_load_row rfl 28 (.tmp 3) rfl w.heap.size rfl 28 e.cells (0, 0) _ HRA.out.arr Tryd.underlying28 rfl (by rw [HSE.out]; exact HZE.out) ?_)
    | (go_at_call 13; refine (HST.out _ HA.out.fd).mono ?_; rintro x w1 ⟨rfl, hb1⟩; have H1 := hid (HA.out.new hb1).1; have K1 := hid (HA.out.new hb1).2; have R1 := hid (K1.out.row HRA.out (by simp)); have E1 := hid (HK.out.trans K1.out.tail); clear hb1)
    | (refine wpl_store_st rfl (.tmp 5) (.tmp 11) rfl (n := 5) HZS.out w1.heap.size st0.cells t.cells rfl rfl (Row.new _ _ _) ?_ (hid rfl) (hid (HSS.out _)) (hid (HOS.out _)); intro w2 hr2 hg2; obtain ⟨q1, q2⟩ := H1.out.one hg2; have H2 := hid q1; have E2 := hid (E1.out.trans q2.tail); have R2 := hid (q2.row R1.out (by simp)); have T2 := hid hr2; have c1 : w2.cell? ⟨w.heap.size, 1, none⟩ = some (.int .i64 e.opn) := R2.out.at_ 1 _ rfl; clear q1 q2 hr2 hg2)
    | (refine wpList_load_row rfl 42 (.tmp 5) rfl w1.heap.size rfl 42 t.cells (0, 0) _ T2.out.arr Tryd.underlying42 rfl (by rw [HSS.out]; exact HZS.out) ?_)
    | (refine wpl_eqs rfl t st0 _ (.tmp 12) (.tmp 13) _ rfl rfl rfl HEQ ?_))
  go_ret
  exact ⟨rfl, H2.out.tail.tail, E2.out⟩
set_option maxHeartbeats 4000000 in
theorem put_argj {w0 w : World} {jp p gs : Nat} {S : Sp} {J : Jn} {G : List Nat} (h : Jd w0 w jp p gs S J G) (hw : JWf J) (e : En) (hf : e.fits) (hr : Rt e) (hh : ¬ J.has e.opn) (_hc : S.count ≤ 900000) :
    Calls Tryd.prog 19 #[.pointer (some ⟨jp, 0, none⟩), .agg e.cells] w (JC w0 w jp p gs S J G (.int .i64 1)) := by
  have HZE := hid esize
  have HZS := hid stsize
  have HSE : Hid (∀ t : En, t.cells.size = 9) := hid fun t => rfl
  have HSS : Hid (∀ t : St, t.cells.size = 5) := hid fun t => rfl
  have HOS : Hid (∀ t : St, t.cells.all (·.oneCell') = true) := hid stubs_one
  have HST : Hid (∀ W, Fd W → Calls Tryd.prog 13 #[.agg e.cells] W (VE W (.agg (stubS e).cells))) := hid fun W hW => sstub_any e hf W hW
  have HA := hid (h.alloc (.cells e.cells 28)).1
  have HK := hid (h.alloc (.cells e.cells 28)).2
  have HRA : Hid (Row (w.alloc (.cells e.cells 28)) w.heap.size 28 e.cells.toList) := hid (Row.new _ _ _)
  have hz : ¬ stubS e = st0 := fun q => (stub_zero e).1 q hr
  have HHA : Hid (∀ W {X : List Nat}, Jd w0 W jp p gs S J X → Calls Tryd.prog 33 #[.pointer (some ⟨jp, 0, none⟩), .int .i64 e.opn] W fun x w' => x = .returned (.bool false) ∧ W = w') := hid fun W X hW => by
    have := has_any13 hW hw.c0 hw.c1 e.opn
    rw [decide_eq_false hh] at this
    exact this
  generalize stubS e = t at *
  have HEQ := hid (show decide (t = st0) = false by simp [hz])
  clear h hw hf hr _hc hz hh
  go_enter Tryd.func19, Tryd.ntmps19
  go_wp2_with (first
    | (refine wpList_load_row rfl 28 (.tmp 3) rfl w.heap.size rfl 28 e.cells (0, 0) _ HRA.out.arr Tryd.underlying28 rfl (by rw [HSE.out]; exact HZE.out) ?_)
    | (go_at_call 13; refine (HST.out _ HA.out.fd).mono ?_; rintro x w1 ⟨rfl, hb1⟩; have H1 := hid (HA.out.new hb1).1; have K1 := hid (HA.out.new hb1).2; have R1 := hid (K1.out.row HRA.out (by simp)); have E1 := hid (HK.out.trans K1.out.tail); clear hb1)
    | (refine wpl_store_st rfl (.tmp 5) (.tmp 11) rfl (n := 5) HZS.out w1.heap.size st0.cells t.cells rfl rfl (Row.new _ _ _) ?_ (hid rfl) (hid (HSS.out _)) (hid (HOS.out _)); intro w2 hr2 hg2; obtain ⟨q1, q2⟩ := H1.out.one hg2; have H2 := hid q1; have E2 := hid (E1.out.trans q2.tail); have R2 := hid (q2.row R1.out (by simp)); have T2 := hid hr2; have c1 : w2.cell? ⟨w.heap.size, 1, none⟩ = some (.int .i64 e.opn) := R2.out.at_ 1 _ rfl; clear q1 q2 hr2 hg2)
    | (refine wpList_load_row rfl 42 (.tmp 5) rfl w1.heap.size rfl 42 t.cells (0, 0) _ T2.out.arr Tryd.underlying42 rfl (by rw [HSS.out]; exact HZS.out) ?_)
    | (refine wpl_eqs rfl t st0 _ (.tmp 12) (.tmp 13) _ rfl rfl rfl HEQ ?_)
    | (go_at_call 33; refine (HHA.out _ H2.out).mono ?_; rintro x w3 ⟨rfl, hw3⟩; subst hw3))
  go_ret
  exact ⟨rfl, H2.out.tail.tail, E2.out⟩
set_option maxHeartbeats 4000000 in
theorem put_errj {w0 w : World} {jp p gs : Nat} {S : Sp} {J : Jn} {G : List Nat} (h : Jd w0 w jp p gs S J G) (hw : JWf J) (e : En) (hf : e.fits) (hr : Rt e) (hh : J.has e.opn) (hz0 : (layL S (putL13 (J.item e.opn) e)).2 ≠ 0) (hc : S.count ≤ 900000) :
    Calls Tryd.prog 19 #[.pointer (some ⟨jp, 0, none⟩), .agg e.cells] w (JC w0 w jp p gs (layL S (putL13 (J.item e.opn) e)).1 J G (.int .i64 (layL S (putL13 (J.item e.opn) e)).2)) := by
  have HZE := hid esize
  have HZS := hid stsize
  have HSE : Hid (∀ t : En, t.cells.size = 9) := hid fun t => rfl
  have HSS : Hid (∀ t : St, t.cells.size = 5) := hid fun t => rfl
  have HOS : Hid (∀ t : St, t.cells.all (·.oneCell') = true) := hid stubs_one
  have HST : Hid (∀ W, Fd W → Calls Tryd.prog 13 #[.agg e.cells] W (VE W (.agg (stubS e).cells))) := hid fun W hW => sstub_any e hf W hW
  have HA := hid (h.alloc (.cells e.cells 28)).1
  have HK := hid (h.alloc (.cells e.cells 28)).2
  have HRA : Hid (Row (w.alloc (.cells e.cells 28)) w.heap.size 28 e.cells.toList) := hid (Row.new _ _ _)
  have hz : ¬ stubS e = st0 := fun q => (stub_zero e).1 q hr
  have HHA : Hid (∀ W {X : List Nat}, Jd w0 W jp p gs S J X → Calls Tryd.prog 33 #[.pointer (some ⟨jp, 0, none⟩), .int .i64 e.opn] W fun x w' => x = .returned (.bool true) ∧ W = w') := hid fun W X hW => by
    have := has_any13 hW hw.c0 hw.c1 e.opn
    rw [decide_eq_true hh] at this
    exact this
  obtain ⟨s, hs, hso⟩ : ∃ s : Nat, s < 8 ∧ e.opn % 8 = s := ⟨(e.opn % 8).toNat, by omega, by omega⟩
  have h0 := hw.c0
  have hslot : slotN J.c s = e.opn := by
    have := slotN_of hh
    rw [show (e.opn % 8).toNat = s by omega] at this
    exact this
  have HSL : Hid (∀ W, Calls Tryd.prog 34 #[.int .i64 e.opn] W fun x w' => x = .returned (.int .i64 (s : Int)) ∧ W = w') := hid fun W => by
    have := slotOf_any e.opn (by have := hh.1; omega) W
    rw [hso] at this
    exact this
  have hb : (s : Int) < 8 := by omega
  have hxw := hw.it _ hh
  have HXR : Hid (∀ W {X : List Nat}, (∃ S, Jd w0 W jp p gs S J X) → W.rangeAt jp (2 + s * 15) (itC (J.item e.opn))) := hid fun W X hW => by
    obtain ⟨S', hW⟩ := hW
    have := hW.range hs
    rw [hslot] at this
    exact this
  have HFO : Hid (∀ W (X : List Nat), Jd w0 W jp p gs S J X → Calls Tryd.prog 41 #[.int .i64 (s : Int), .agg (J.item e.opn).cells, .agg e.cells, .agg (stubS e).cells] W (LF w0 W jp p gs S J X (putL13 (J.item e.opn) e))) := hid fun W X hW => for_any hW s hs _ e hf hr hso hxw
  have HLY : Hid (∀ W (X : List Nat) A c L, Jd w0 W jp p gs S J X → LyAt W X A L → L.map Ly.lay = putL13 (J.item e.opn) e → L.length ≤ 3 → Calls Tryd.prog 40 #[.pointer (some ⟨jp, 0, none⟩), .slice A (List.length L) c] W (JC w0 W jp p gs (layL S (putL13 (J.item e.opn) e)).1 J X (.int .i64 (layL S (putL13 (J.item e.opn) e)).2))) := hid fun W X A c L hW hA hm hn => by
    have := lay_any13 hW L A c hA (by omega)
    rw [hm] at this
    exact this
  have HSZ0 := hid h.size
  have HNG : Hid (w.heap.size ∉ G) := hid fun hn => Nat.lt_irrefl _ (h.lt _ hn)
  have HL8 := hid hw.len
  have HS8 := hid hs
  have HCL : Hid (∀ W, Calls Tryd.prog 35 #[.string e.body] W fun x w' => x = .returned (.string e.body) ∧ Below W.heap.size W w') := hid fun W => clone_any e.body W (by have := rt_body hr; omega)
  have hsze : (Tryd.prog.info? 28).map (·.size) = some e.cells.size := esize
  generalize layL S (putL13 (J.item e.opn) e) = RES at *
  obtain ⟨S1, z⟩ := RES
  simp only at *
  generalize J.item e.opn = x at *
  generalize stubS e = t at *
  have hszt : (Tryd.prog.info? 42).map (·.size) = some t.cells.size := stsize
  have HEQ := hid (show decide (t = st0) = false by simp [hz])
  have HSLT := hid hslot
  have HZ0 := hid (show (z != 0) = true by simpa using hz0)
  clear h hw hf hr hc hz hh hxw hso hs h0 hslot hz0
  go_enter Tryd.func19, Tryd.ntmps19
  go_wp2_with (first
    | (refine wpList_load_row rfl 28 (.tmp 3) rfl w.heap.size rfl 28 e.cells (0, 0) _ HRA.out.arr Tryd.underlying28 rfl (by rw [HSE.out]; exact HZE.out) ?_)
    | (go_at_call 13; refine (HST.out _ HA.out.fd).mono ?_; rintro x w1 ⟨rfl, hb1⟩; have H1 := hid (HA.out.new hb1).1; have K1 := hid (HA.out.new hb1).2; have R1 := hid (K1.out.row HRA.out (by simp)); have E1 := hid (HK.out.trans K1.out.tail); clear hb1)
    | (refine wpl_store_st rfl (.tmp 5) (.tmp 11) rfl (n := 5) HZS.out w1.heap.size st0.cells t.cells rfl rfl (Row.new _ _ _) ?_ (hid rfl) (hid (HSS.out _)) (hid (HOS.out _)); intro w2 hr2 hg2; obtain ⟨q1, q2⟩ := H1.out.one hg2; have H2 := hid q1; have E2 := hid (E1.out.trans q2.tail); have R2 := hid (q2.row R1.out (by simp)); have T2 := hid hr2; have c1 : w2.cell? ⟨w.heap.size, 1, none⟩ = some (.int .i64 e.opn) := R2.out.at_ 1 _ rfl; clear q1 q2 hr2 hg2)
    | (refine wpList_load_row rfl 42 (.tmp 5) rfl w1.heap.size rfl 42 t.cells (0, 0) _ T2.out.arr Tryd.underlying42 rfl (by rw [HSS.out]; exact HZS.out) ?_)
    | (refine wpl_eqs rfl t st0 _ (.tmp 12) (.tmp 13) _ rfl rfl rfl HEQ ?_)
    | (go_at_call 33; refine (HHA.out _ H2.out).mono ?_; rintro x w3 ⟨rfl, hw3⟩; subst hw3)
    | (go_at_call 34; refine (HSL.out _).mono ?_; rintro x w4 ⟨rfl, hw4⟩; subst hw4))
  try simp only [Act.put, la1, la2, la3, la4, la5, la6]
  refine wp_region_held_drew (S := fun W => (∃ S, Jd w0 W jp p gs S J (w1.heap.size :: w.heap.size :: G)) ∧ Ek w2 W (w1.heap.size :: w.heap.size :: G)) (by kernel_rfl) (⟨⟨_, H2.out.drew⟩, fun _ _ => rfl⟩) (fun hH => ?_)
  refine tk_ (i := 0) (v := .pointer (some ⟨jp, 0, none⟩)) rfl (Or.inl ⟨by kernel_rfl, fun w' _ => by kernel_rfl⟩) hH ?_
  simp only [Act.put, la1, la3, la4, la5, la6]
  refine tk_ (i := 1) (v := .int .i64 (s : Int)) rfl (Or.inl ⟨by kernel_rfl, fun w' _ => by kernel_rfl⟩) hH ?_
  simp only [Act.put, la1, la2, la3, la4, la5, la6]
  refine tk_ (i := 2) (v := .pointer (some ⟨jp, 0, none⟩)) rfl (Or.inl ⟨by kernel_rfl, fun w' _ => by kernel_rfl⟩) hH ?_
  simp only [Act.put, la1, la2, la3, la4, la5, la6]
  refine tk_ (i := 3) (v := .int .i64 (s : Int)) rfl (Or.inl ⟨by kernel_rfl, fun w' _ => by kernel_rfl⟩) hH ?_
  simp only [Act.put, la1, la2, la3, la4, la5, la6]
  refine tk_ (i := 4) (v := .pointer (some ⟨jp, 0, none⟩)) rfl (Or.inl ⟨by rfl, fun w' hw' => by clear hw'; go_simp⟩) hH ?_
  simp only [Act.put, la1, la2, la3, la4, la5, la6]
  refine tk_ (i := 5) (v := .pointer (some ⟨jp, 2, none⟩)) rfl (Or.inl ⟨by rfl, fun w' hw' => by clear hw'; go_simp⟩) hH ?_
  simp only [Act.put, la1, la2, la3, la4, la5, la6]
  refine tk_ (i := 6) (v := .pointer (some ⟨jp, 2 + s * 15, none⟩)) rfl (Or.inl ⟨by rfl, fun w' hw' => by clear hw'; go_simp⟩) hH ?_
  simp only [Act.put, la1, la2, la3, la4, la5, la6]
  refine tk_ (i := 7) (v := .agg x.cells) rfl ?_ hH ?_
  · refine yieldsIf_load_mid ?_ 44 (.tmp 29) ?_ jp (2 + s * 15) ?_ (itC x) _ (fun W hW => HXR.out W hW.1) Tryd.underlying44 rfl itemSize13
    all_goals kernel_rfl
  simp only [Act.put, la1, la2, la3, la4, la5, la6]
  refine tk_ (i := 8) (v := .agg e.cells) rfl ?_ hH ?_
  · refine yieldsIf_load_mid ?_ 28 (.tmp 3) ?_ w.heap.size 0 ?_ (Array.toList e.cells) _ (fun W hW => Row.range (hW.2.row R2.out (by simp))) Tryd.underlying28 rfl (by exact hsze)
    all_goals kernel_rfl
  simp only [Act.put, la1, la2, la3, la4, la5, la6]
  refine tk_ (i := 9) (v := .agg t.cells) rfl ?_ hH ?_
  · refine yieldsIf_load_mid ?_ 42 (.tmp 5) ?_ w1.heap.size 0 ?_ (Array.toList t.cells) _ (fun W hW => Row.range (hW.2.row T2.out (by simp))) Tryd.underlying42 rfl (by exact hszt)
    all_goals kernel_rfl
  simp only [Act.put, la1, la2, la3, la4, la5, la6]
  refine wpAnyH_ready (rs := [10]) (by kernel_rfl) (by simp) ?_
  refine AllReadyH.cons rfl (fun K hK => ?_) AllReadyH.nil
  go_simp
  go_at_call 41
  refine (HFO.out _ _ H2.out.drew).mono ?_
  rintro y w5 ⟨X, A5, c5, L5, rfl, h5, a5, m5, n5, k5⟩
  go_wp2_with fail
  have H5 := hid h5
  have A5' := hid a5
  have M5 := hid m5
  have N5 := hid n5
  have K5 : Hid (Ek w2 w5 (w1.heap.size :: w.heap.size :: G)) := hid k5
  clear h5 a5 m5 n5 k5
  refine hK.out _ _ (⟨⟨_, H5.out.sub (fun g hg => List.mem_append_right _ hg)⟩, K5.out⟩) (fun hH => ?_)
  clear hK K
  try simp only [Act.put, la1, la2, la3, la4, la5, la6]
  refine wpAnyH_ready (rs := [11]) (by kernel_rfl) (by simp) ?_
  refine AllReadyH.cons rfl (fun K hK => ?_) AllReadyH.nil
  go_simp
  go_at_call 40
  refine (HLY.out _ _ _ _ _ H5.out A5'.out M5.out N5.out).mono ?_
  rintro y w6 ⟨rfl, h6, k6⟩
  go_wp2_with fail
  have H6 := hid (h6.sub (fun g hg => List.mem_append_right X hg))
  have K6 : Hid (Ek w2 w6 (w1.heap.size :: w.heap.size :: G)) := hid (K5.out.trans (k6.sub (fun g hg => List.mem_append_right X hg)))
  clear h6 k6
  refine hK.out _ _ (⟨⟨_, H6.out⟩, K6.out⟩) (fun hH => ?_)
  clear hK K
  try simp only [Act.put, la1, la2, la3, la4, la5, la6]
  refine tk_ (i := 12) (v := .int .i64 z) rfl (Or.inl ⟨by kernel_rfl, fun w' _ => by kernel_rfl⟩) hH ?_
  simp only [Act.put, la1, la2, la3, la4, la5, la6]
  refine wpAnyH_done (by kernel_rfl) ?_ _
  try simp only [Act.put, la1, la2, la3, la4, la5, la6]
  clear hH
  have E6 := hid (E2.out.trans K6.out.tail.tail)
  have R6 := hid (K6.out.row R2.out (by simp))
  have T6 := hid (K6.out.row T2.out (by simp))
  have hz0 := HZ0.out
  go_wp2_with fail
  go_ret
  exact ⟨rfl, H6.out.tail.tail, E6.out⟩
set_option maxHeartbeats 4000000 in
theorem put_okj {w0 w : World} {jp p gs : Nat} {S : Sp} {J : Jn} {G : List Nat} (h : Jd w0 w jp p gs S J G) (hw : JWf J) (e : En) (hf : e.fits) (hr : Rt e) (hh : J.has e.opn) (hz0 : (layL S (putL13 (J.item e.opn) e)).2 = 0) (hc : S.count ≤ 900000) :
    Calls Tryd.prog 19 #[.pointer (some ⟨jp, 0, none⟩), .agg e.cells] w (JC w0 w jp p gs (layL S (putL13 (J.item e.opn) e)).1 (J.set e.opn ⟨1, stubS e, e⟩) G (.int .i64 0)) := by
  have HZE := hid esize
  have HZS := hid stsize
  have HSE : Hid (∀ t : En, t.cells.size = 9) := hid fun t => rfl
  have HSS : Hid (∀ t : St, t.cells.size = 5) := hid fun t => rfl
  have HOS : Hid (∀ t : St, t.cells.all (·.oneCell') = true) := hid stubs_one
  have HST : Hid (∀ W, Fd W → Calls Tryd.prog 13 #[.agg e.cells] W (VE W (.agg (stubS e).cells))) := hid fun W hW => sstub_any e hf W hW
  have HA := hid (h.alloc (.cells e.cells 28)).1
  have HK := hid (h.alloc (.cells e.cells 28)).2
  have HRA : Hid (Row (w.alloc (.cells e.cells 28)) w.heap.size 28 e.cells.toList) := hid (Row.new _ _ _)
  have hz : ¬ stubS e = st0 := fun q => (stub_zero e).1 q hr
  have HHA : Hid (∀ W {X : List Nat}, Jd w0 W jp p gs S J X → Calls Tryd.prog 33 #[.pointer (some ⟨jp, 0, none⟩), .int .i64 e.opn] W fun x w' => x = .returned (.bool true) ∧ W = w') := hid fun W X hW => by
    have := has_any13 hW hw.c0 hw.c1 e.opn
    rw [decide_eq_true hh] at this
    exact this
  obtain ⟨s, hs, hso⟩ : ∃ s : Nat, s < 8 ∧ e.opn % 8 = s := ⟨(e.opn % 8).toNat, by omega, by omega⟩
  have h0 := hw.c0
  have hslot : slotN J.c s = e.opn := by
    have := slotN_of hh
    rw [show (e.opn % 8).toNat = s by omega] at this
    exact this
  have HSL : Hid (∀ W, Calls Tryd.prog 34 #[.int .i64 e.opn] W fun x w' => x = .returned (.int .i64 (s : Int)) ∧ W = w') := hid fun W => by
    have := slotOf_any e.opn (by have := hh.1; omega) W
    rw [hso] at this
    exact this
  have hb : (s : Int) < 8 := by omega
  have hxw := hw.it _ hh
  have HXR : Hid (∀ W {X : List Nat}, (∃ S, Jd w0 W jp p gs S J X) → W.rangeAt jp (2 + s * 15) (itC (J.item e.opn))) := hid fun W X hW => by
    obtain ⟨S', hW⟩ := hW
    have := hW.range hs
    rw [hslot] at this
    exact this
  have HFO : Hid (∀ W (X : List Nat), Jd w0 W jp p gs S J X → Calls Tryd.prog 41 #[.int .i64 (s : Int), .agg (J.item e.opn).cells, .agg e.cells, .agg (stubS e).cells] W (LF w0 W jp p gs S J X (putL13 (J.item e.opn) e))) := hid fun W X hW => for_any hW s hs _ e hf hr hso hxw
  have HLY : Hid (∀ W (X : List Nat) A c L, Jd w0 W jp p gs S J X → LyAt W X A L → L.map Ly.lay = putL13 (J.item e.opn) e → L.length ≤ 3 → Calls Tryd.prog 40 #[.pointer (some ⟨jp, 0, none⟩), .slice A (List.length L) c] W (JC w0 W jp p gs (layL S (putL13 (J.item e.opn) e)).1 J X (.int .i64 (layL S (putL13 (J.item e.opn) e)).2))) := hid fun W X A c L hW hA hm hn => by
    have := lay_any13 hW L A c hA (by omega)
    rw [hm] at this
    exact this
  have HSZ0 := hid h.size
  have HNG : Hid (w.heap.size ∉ G) := hid fun hn => Nat.lt_irrefl _ (h.lt _ hn)
  have HL8 := hid hw.len
  have HS8 := hid hs
  have HCL : Hid (∀ W, Calls Tryd.prog 35 #[.string e.body] W fun x w' => x = .returned (.string e.body) ∧ Below W.heap.size W w') := hid fun W => clone_any e.body W (by have := rt_body hr; omega)
  have hsze : (Tryd.prog.info? 28).map (·.size) = some e.cells.size := esize
  generalize layL S (putL13 (J.item e.opn) e) = RES at *
  obtain ⟨S1, z⟩ := RES
  simp only at *
  subst hz0
  generalize J.item e.opn = x at *
  generalize stubS e = t at *
  have hszt : (Tryd.prog.info? 42).map (·.size) = some t.cells.size := stsize
  have HEQ := hid (show decide (t = st0) = false by simp [hz])
  have HSLT := hid hslot
  clear h hw hf hr hc hz hh hxw hso h0 hslot
  go_enter Tryd.func19, Tryd.ntmps19
  go_wp2_with (first
    | (refine wpList_load_row rfl 28 (.tmp 3) rfl w.heap.size rfl 28 e.cells (0, 0) _ HRA.out.arr Tryd.underlying28 rfl (by rw [HSE.out]; exact HZE.out) ?_)
    | (go_at_call 13; refine (HST.out _ HA.out.fd).mono ?_; rintro x w1 ⟨rfl, hb1⟩; have H1 := hid (HA.out.new hb1).1; have K1 := hid (HA.out.new hb1).2; have R1 := hid (K1.out.row HRA.out (by simp)); have E1 := hid (HK.out.trans K1.out.tail); clear hb1)
    | (refine wpl_store_st rfl (.tmp 5) (.tmp 11) rfl (n := 5) HZS.out w1.heap.size st0.cells t.cells rfl rfl (Row.new _ _ _) ?_ (hid rfl) (hid (HSS.out _)) (hid (HOS.out _)); intro w2 hr2 hg2; obtain ⟨q1, q2⟩ := H1.out.one hg2; have H2 := hid q1; have E2 := hid (E1.out.trans q2.tail); have R2 := hid (q2.row R1.out (by simp)); have T2 := hid hr2; have c1 : w2.cell? ⟨w.heap.size, 1, none⟩ = some (.int .i64 e.opn) := R2.out.at_ 1 _ rfl; clear q1 q2 hr2 hg2)
    | (refine wpList_load_row rfl 42 (.tmp 5) rfl w1.heap.size rfl 42 t.cells (0, 0) _ T2.out.arr Tryd.underlying42 rfl (by rw [HSS.out]; exact HZS.out) ?_)
    | (refine wpl_eqs rfl t st0 _ (.tmp 12) (.tmp 13) _ rfl rfl rfl HEQ ?_)
    | (go_at_call 33; refine (HHA.out _ H2.out).mono ?_; rintro x w3 ⟨rfl, hw3⟩; subst hw3)
    | (go_at_call 34; refine (HSL.out _).mono ?_; rintro x w4 ⟨rfl, hw4⟩; subst hw4))
  try simp only [Act.put, la1, la2, la3, la4, la5, la6]
  refine wp_region_held_drew (S := fun W => (∃ S, Jd w0 W jp p gs S J (w1.heap.size :: w.heap.size :: G)) ∧ Ek w2 W (w1.heap.size :: w.heap.size :: G)) (by kernel_rfl) (⟨⟨_, H2.out.drew⟩, fun _ _ => rfl⟩) (fun hH => ?_)
  refine tk_ (i := 0) (v := .pointer (some ⟨jp, 0, none⟩)) rfl (Or.inl ⟨by kernel_rfl, fun w' _ => by kernel_rfl⟩) hH ?_
  simp only [Act.put, la1, la3, la4, la5, la6]
  refine tk_ (i := 1) (v := .int .i64 (s : Int)) rfl (Or.inl ⟨by kernel_rfl, fun w' _ => by kernel_rfl⟩) hH ?_
  simp only [Act.put, la1, la2, la3, la4, la5, la6]
  refine tk_ (i := 2) (v := .pointer (some ⟨jp, 0, none⟩)) rfl (Or.inl ⟨by kernel_rfl, fun w' _ => by kernel_rfl⟩) hH ?_
  simp only [Act.put, la1, la2, la3, la4, la5, la6]
  refine tk_ (i := 3) (v := .int .i64 (s : Int)) rfl (Or.inl ⟨by kernel_rfl, fun w' _ => by kernel_rfl⟩) hH ?_
  simp only [Act.put, la1, la2, la3, la4, la5, la6]
  refine tk_ (i := 4) (v := .pointer (some ⟨jp, 0, none⟩)) rfl (Or.inl ⟨by rfl, fun w' hw' => by clear hw'; go_simp⟩) hH ?_
  simp only [Act.put, la1, la2, la3, la4, la5, la6]
  refine tk_ (i := 5) (v := .pointer (some ⟨jp, 2, none⟩)) rfl (Or.inl ⟨by rfl, fun w' hw' => by clear hw'; go_simp⟩) hH ?_
  simp only [Act.put, la1, la2, la3, la4, la5, la6]
  refine tk_ (i := 6) (v := .pointer (some ⟨jp, 2 + s * 15, none⟩)) rfl (Or.inl ⟨by rfl, fun w' hw' => by clear hw'; go_simp⟩) hH ?_
  simp only [Act.put, la1, la2, la3, la4, la5, la6]
  refine tk_ (i := 7) (v := .agg x.cells) rfl ?_ hH ?_
  · refine yieldsIf_load_mid ?_ 44 (.tmp 29) ?_ jp (2 + s * 15) ?_ (itC x) _ (fun W hW => HXR.out W hW.1) Tryd.underlying44 rfl itemSize13
    all_goals kernel_rfl
  simp only [Act.put, la1, la2, la3, la4, la5, la6]
  refine tk_ (i := 8) (v := .agg e.cells) rfl ?_ hH ?_
  · refine yieldsIf_load_mid ?_ 28 (.tmp 3) ?_ w.heap.size 0 ?_ (Array.toList e.cells) _ (fun W hW => Row.range (hW.2.row R2.out (by simp))) Tryd.underlying28 rfl (by exact hsze)
    all_goals kernel_rfl
  simp only [Act.put, la1, la2, la3, la4, la5, la6]
  refine tk_ (i := 9) (v := .agg t.cells) rfl ?_ hH ?_
  · refine yieldsIf_load_mid ?_ 42 (.tmp 5) ?_ w1.heap.size 0 ?_ (Array.toList t.cells) _ (fun W hW => Row.range (hW.2.row T2.out (by simp))) Tryd.underlying42 rfl (by exact hszt)
    all_goals kernel_rfl
  simp only [Act.put, la1, la2, la3, la4, la5, la6]
  refine wpAnyH_ready (rs := [10]) (by kernel_rfl) (by simp) ?_
  refine AllReadyH.cons rfl (fun K hK => ?_) AllReadyH.nil
  go_simp
  go_at_call 41
  refine (HFO.out _ _ H2.out.drew).mono ?_
  rintro y w5 ⟨X, A5, c5, L5, rfl, h5, a5, m5, n5, k5⟩
  go_wp2_with fail
  have H5 := hid h5
  have A5' := hid a5
  have M5 := hid m5
  have N5 := hid n5
  have K5 : Hid (Ek w2 w5 (w1.heap.size :: w.heap.size :: G)) := hid k5
  clear h5 a5 m5 n5 k5
  refine hK.out _ _ (⟨⟨_, H5.out.sub (fun g hg => List.mem_append_right _ hg)⟩, K5.out⟩) (fun hH => ?_)
  clear hK K
  try simp only [Act.put, la1, la2, la3, la4, la5, la6]
  refine wpAnyH_ready (rs := [11]) (by kernel_rfl) (by simp) ?_
  refine AllReadyH.cons rfl (fun K hK => ?_) AllReadyH.nil
  go_simp
  go_at_call 40
  refine (HLY.out _ _ _ _ _ H5.out A5'.out M5.out N5.out).mono ?_
  rintro y w6 ⟨rfl, h6, k6⟩
  go_wp2_with fail
  have H6 := hid (h6.sub (fun g hg => List.mem_append_right X hg))
  have K6 : Hid (Ek w2 w6 (w1.heap.size :: w.heap.size :: G)) := hid (K5.out.trans (k6.sub (fun g hg => List.mem_append_right X hg)))
  clear h6 k6
  refine hK.out _ _ (⟨⟨_, H6.out⟩, K6.out⟩) (fun hH => ?_)
  clear hK K
  try simp only [Act.put, la1, la2, la3, la4, la5, la6]
  refine tk_ (i := 12) (v := .int .i64 0) rfl (Or.inl ⟨by kernel_rfl, fun w' _ => by kernel_rfl⟩) hH ?_
  simp only [Act.put, la1, la2, la3, la4, la5, la6]
  refine wpAnyH_done (by kernel_rfl) ?_ _
  try simp only [Act.put, la1, la2, la3, la4, la5, la6]
  clear hH
  have E6 := hid (E2.out.trans K6.out.tail.tail)
  have R6 := hid (K6.out.row R2.out (by simp))
  have T6 := hid (K6.out.row T2.out (by simp))
  have c8 : w6.cell? ⟨w.heap.size, 8, none⟩ = some (.string e.body) := R6.out.at_ 8 _ rfl
  have HNE : Hid (¬ w.heap.size = w1.heap.size) := hid (by have := H1.out.lt w.heap.size (by simp); omega)
  go_wp2_with (first
    | (go_at_call 35; refine (HCL.out _).mono ?_; rintro y w7 ⟨rfl, hb7⟩; have H7 := hid (H6.out.new hb7).1; have K7 := hid (H6.out.new hb7).2; have E7 := hid (E6.out.trans K7.out.tail.tail); have R7 := hid (K7.out.row R6.out (by simp)); have T7 := hid (K7.out.row T6.out (by simp)); clear hb7)
    | (refine wpl_store_c rfl 9 (.tmp 41) (.tmp 40) rfl w.heap.size 8 (.string e.body) rfl rfl R7.out (by kernel_rfl) ?_ (hid (by show 8 < 9; decide)) (hid rfl); intro w8 hr8 hg8; have H8 := hid (H7.out.put (g := w.heap.size) (by simp) HSZ0.out hg8); have E8 := hid (E7.out.trans (ek_put hg8 (fun g hg => H7.out.lt g (by simp [hg])) HNG.out)); have R8 : Hid (Row w8 w.heap.size 28 e.cells.toList) := hid hr8; have T8 := hid ((ek_put (G := [w1.heap.size]) hg8 (fun g hg => H7.out.lt g (by simp at hg; simp [hg])) (by simp; exact HNE.out)).row T7.out (by simp)); clear hr8 hg8))
  try simp only [Act.put]
  refine wp_region_held_drew (S := fun W => (∃ J, Jd w0 W jp p gs S1 J (w1.heap.size :: w.heap.size :: G)) ∧ Ek w8 W (w1.heap.size :: w.heap.size :: G)) (by kernel_rfl) (⟨⟨_, H8.out.drew⟩, fun _ _ => rfl⟩) (fun hH => ?_)
  refine tk_ (i := 0) (v := .pointer (some ⟨jp, 0, none⟩)) rfl (Or.inl ⟨by kernel_rfl, fun w' _ => by kernel_rfl⟩) hH ?_
  simp only [Act.put, la1, la3, la4, la5, la6]
  refine tk_ (i := 1) (v := .int .i64 (s : Int)) rfl (Or.inl ⟨by kernel_rfl, fun w' _ => by kernel_rfl⟩) hH ?_
  simp only [Act.put, la1, la2, la3, la4, la5, la6]
  refine tk_ (i := 2) (v := .agg t.cells) rfl ?_ hH ?_
  · refine yieldsIf_load_mid ?_ 42 (.tmp 5) ?_ w1.heap.size 0 ?_ (Array.toList t.cells) _ (fun W hW => Row.range (hW.2.row T8.out (by simp))) Tryd.underlying42 rfl (by exact hszt)
    all_goals kernel_rfl
  simp only [Act.put, la1, la2, la3, la4, la5, la6]
  refine tk_ (i := 3) (v := .agg e.cells) rfl ?_ hH ?_
  · refine yieldsIf_load_mid ?_ 28 (.tmp 3) ?_ w.heap.size 0 ?_ (Array.toList e.cells) _ (fun W hW => Row.range (hW.2.row R8.out (by simp))) Tryd.underlying28 rfl (by exact hsze)
    all_goals kernel_rfl
  simp only [Act.put, la1, la2, la3, la4, la5, la6]
  refine tk_ (i := 4) (v := .agg (⟨1, t, e⟩ : It).cells) rfl (Or.inl ⟨by kernel_rfl, fun w' _ => by kernel_rfl⟩) hH ?_
  simp only [Act.put, la1, la2, la3, la4, la5, la6]
  refine tk_ (i := 5) (v := .pointer (some ⟨jp, 0, none⟩)) rfl (Or.inl ⟨by rfl, fun w' hw' => by clear hw'; go_simp⟩) hH ?_
  simp only [Act.put, la1, la2, la3, la4, la5, la6]
  refine tk_ (i := 6) (v := .pointer (some ⟨jp, 2, none⟩)) rfl (Or.inl ⟨by rfl, fun w' hw' => by clear hw'; go_simp⟩) hH ?_
  simp only [Act.put, la1, la2, la3, la4, la5, la6]
  refine tk_ (i := 7) (v := .pointer (some ⟨jp, 2 + s * 15, none⟩)) rfl (Or.inl ⟨by rfl, fun w' hw' => by clear hw'; go_simp⟩) hH ?_
  simp only [Act.put, la1, la2, la3, la4, la5, la6]
  refine wpAnyH_ready (rs := [8]) (by kernel_rfl) (by simp) ?_
  refine AllReadyH.cons rfl (fun K hK => ?_) AllReadyH.nil
  rw [if_pos (by kernel_rfl)]
  refine wp_store_mid 44 (.tmp 49) (.tmp 46) rfl jp (2 + s * 15) (⟨1, t, e⟩ : It).cells rfl rfl (H8.out.drew.there HS8.out _) itemSize13 (itC_one _) ?_
  refine hK.out _ _ (⟨⟨_, (H8.out.drew.setIt HL8.out HS8.out _).1⟩, (H8.out.drew.setIt HL8.out HS8.out _).2.sub (fun g hg => hg)⟩) (fun hH => ?_)
  clear hK K
  try simp only [Act.put, la1, la2, la3]
  refine wpAnyH_done (by kernel_rfl) ?_ _
  try simp only [Act.put, la1, la2, la3, la4, la5, la6]
  have H9 := hid (H8.out.drew.setIt HL8.out HS8.out (⟨1, t, e⟩ : It)).1
  have E9 : Hid (Ek w _ G) := hid (E8.out.trans (H8.out.drew.setIt HL8.out HS8.out (⟨1, t, e⟩ : It)).2.tail.tail)
  clear hH
  generalize World.setCells _ jp (2 + s * 15) _ = w9 at *
  rw [HSLT.out] at H9
  go_wp2_with fail
  go_ret
  exact ⟨rfl, H9.out.tail.tail, E9.out⟩
theorem put_any13 {w0 w : World} {jp p gs : Nat} {S : Sp} {J : Jn} {G : List Nat} (h : Jd w0 w jp p gs S J G) (hw : JWf J) (e : En) (hf : e.fits) (hc : S.count ≤ 900000) :
    Calls Tryd.prog 19 #[.pointer (some ⟨jp, 0, none⟩), .agg e.cells] w (JC w0 w jp p gs (putJ S J e).1 (putJ S J e).2.1 G (.int .i64 (putJ S J e).2.2)) := by
  by_cases hr : Rt e
  · by_cases hh : J.has e.opn
    · rw [put_eq hw hr hh]
      by_cases hz : (layL S (putL13 (J.item e.opn) e)).2 = 0
      · rw [if_pos hz]
        exact put_okj h hw e hf hr hh hz hc
      · rw [if_neg hz]
        exact put_errj h hw e hf hr hh hz hc
    · have e1 : putJ S J e = (S, J, 1) := by unfold putJ; rw [if_neg (not_not_intro hr), if_pos hh]
      rw [e1]
      exact put_argj h hw e hf hr hh hc
  · have e1 : putJ S J e = (S, J, 4) := by unfold putJ; rw [if_pos hr]
    rw [e1]
    exact put_formj h hw e hf hr hc
end Go.Proofs.YtafbeepacncooaaDoor
/-
  The walk of package journal's Void.
-/
namespace Go.Proofs.YtafbeepacncooaaDoor
open Go.RowKit
set_option maxRecDepth 10000

theorem wpl_slice2l {P : Program} {ops : Array Oper} {rest : List Oper} {o : Oper} {a : Act} {w : World} {Q : Exit → Act → World → Prop} (hgd : o.guard = none) (x y : Operand) (ho : o.op = .buildSlice 82 2 #[(0, x), (1, y)]) (c1 c2 c3 c4 : Value) (hx : a.eval x = .agg #[c1, c2]) (hy : a.eval y = .agg #[c3, c4])
    (hu : P.underlying 82 = some (.slice 87)) (ie : TypeInfo) (hie : P.info? 87 = some ie) (hz : ie.zero = some (.agg #[.int .i64 0, .nilFunc])) (hs : ie.size = 2)
    (h : wpList P ops Q rest (a.put o.dst (.slice (some ⟨w.heap.size, 0, none⟩) 2 2)) (w.alloc (.cells #[c1, c2, c3, c4] 87))) : wpList P ops Q (o :: rest) a w :=
  wpList_plain hgd fun _ hK => wpl_slice2 x y ho c1 c2 c3 c4 hx hy hu ie hie hz hs (hK _ _ h)
theorem void_nil13 (n : Int) (w : World) : Calls Tryd.prog 20 #[.pointer none, .int .i64 n] w fun x w' => x = .returned (.int .i64 2) ∧ Below w.heap.size w w' := by
  go_enter Tryd.func20, Tryd.ntmps20
  go_wp2_with fail
  go_ret
  exact ⟨rfl, Below.refl _ _⟩
theorem void_eq {S : Sp} {J : Jn} (hw : JWf J) {n : Int} (hh : J.has n) : voidJ S J n = if (layL S (voidP (J.item n) n)).2 = 0 then ((layL S (voidP (J.item n) n)).1, J.set n it0, 0) else ((layL S (voidP (J.item n) n)).1, J, (layL S (voidP (J.item n) n)).2) := by
  have hi := hw.it _ hh
  unfold voidJ
  rw [if_neg (not_not_intro hh)]
  by_cases h0 : (J.item n).kind = 0
  · rw [if_pos h0]
    have e : J.item n = it0 := by
      rcases hi with e | ⟨y, _, _, _, e⟩ | ⟨s, _, _, _, e⟩ | e
      · exact e
      · rw [e] at h0; cases h0
      · rw [e] at h0; cases h0
      · rw [e] at h0; cases h0
    unfold voidP
    rw [if_pos h0]
    show _ = if (S, (0 : Int)).2 = 0 then (S, J.set n it0, 0) else _
    rw [if_pos rfl, ← e, jset_same hw.len hh]
  · rw [if_neg h0]
set_option maxHeartbeats 4000000 in
theorem void_argj {w0 w : World} {jp p gs : Nat} {S : Sp} {J : Jn} {G : List Nat} (h : Jd w0 w jp p gs S J G) (hw : JWf J) (n : Int) (hh : ¬ J.has n) (_hc : S.count ≤ 900000) :
    Calls Tryd.prog 20 #[.pointer (some ⟨jp, 0, none⟩), .int .i64 n] w (JC w0 w jp p gs S J G (.int .i64 1)) := by
  have HHA : Hid (Calls Tryd.prog 33 #[.pointer (some ⟨jp, 0, none⟩), .int .i64 n] w fun x w' => x = .returned (.bool false) ∧ w = w') := hid (by
    have := has_any13 h hw.c0 hw.c1 n
    rw [decide_eq_false hh] at this
    exact this)
  have HH := hid h
  clear h hw _hc hh
  go_enter Tryd.func20, Tryd.ntmps20
  go_wp2_with (first
    | (go_at_call 33; refine HHA.out.mono ?_; rintro x w3 ⟨rfl, hw3⟩; subst hw3))
  go_ret
  exact ⟨rfl, HH.out, Ek.refl _ _⟩
set_option maxHeartbeats 4000000 in
theorem void_wasok {w0 w : World} {jp p gs : Nat} {S : Sp} {J : Jn} {G : List Nat} (h : Jd w0 w jp p gs S J G) (hw : JWf J) (n : Int) (hh : J.has n) (hk : (J.item n).kind = 1 ∨ (J.item n).kind = 2) (hz0 : (layL S (voidP (J.item n) n)).2 = 0) (hc : S.count ≤ 900000) :
    Calls Tryd.prog 20 #[.pointer (some ⟨jp, 0, none⟩), .int .i64 n] w (JC w0 w jp p gs (layL S (voidP (J.item n) n)).1 (J.set n it0) G (.int .i64 0)) := by
  obtain ⟨i0, hi0, hi1, hi2⟩ := layInfo
  have HHA : Hid (Calls Tryd.prog 33 #[.pointer (some ⟨jp, 0, none⟩), .int .i64 n] w fun x w' => x = .returned (.bool true) ∧ w = w') := hid (by
    have := has_any13 h hw.c0 hw.c1 n
    rw [decide_eq_true hh] at this
    exact this)
  obtain ⟨s, hs, hso⟩ : ∃ s : Nat, s < 8 ∧ n % 8 = s := ⟨(n % 8).toNat, by omega, by omega⟩
  have h0 := hw.c0
  have hslot : slotN J.c s = n := by
    have := slotN_of hh
    rw [show (n % 8).toNat = s by omega] at this
    exact this
  have HSL : Hid (Calls Tryd.prog 34 #[.int .i64 n] w fun x w' => x = .returned (.int .i64 (s : Int)) ∧ w = w') := hid (by
    have := slotOf_any n (by have := hh.1; omega) w
    rw [hso] at this
    exact this)
  have hb : (s : Int) < 8 := by omega
  have hpn : pN n = 4 + s := by unfold pN; omega
  have hhn : hN n = 12 + s := by unfold hN; omega
  have HXR : Hid (w.rangeAt jp (2 + s * 15) (itC (J.item n))) := hid (by
    have := h.range hs
    rw [hslot] at this
    exact this)
  have HPV : Hid (∀ W, Calls Tryd.prog 45 #[.int .i64 (s : Int), .func (.func 44) #[] #[]] W (VE W (.agg #[.int .i64 ((4 + s : Nat) : Int), fvV]))) := hid fun W => prep_v s W hs
  have HHV : Hid (∀ W, Calls Tryd.prog 43 #[.int .i64 (s : Int), .func (.func 44) #[] #[]] W (VE W (.agg #[.int .i64 ((12 + s : Nat) : Int), fvV]))) := hid fun W => head_v s W hs
  have HWS : Hid (∀ W, Calls Tryd.prog 42 #[.agg (J.item n).cells] W fun e w' => e = .returned (.bool (decide ((J.item n).kind = 1 ∨ (J.item n).kind = 2))) ∧ Below W.heap.size W w') := hid fun W => was_any _ W
  have HLY : Hid (∀ W (X : List Nat) A c L, Jd w0 W jp p gs S J X → LyAt W X A L → L.map Ly.lay = voidP (J.item n) n → L.length ≤ 2 → Calls Tryd.prog 40 #[.pointer (some ⟨jp, 0, none⟩), .slice A (List.length L) c] W (JC w0 W jp p gs (layL S (voidP (J.item n) n)).1 J X (.int .i64 (layL S (voidP (J.item n) n)).2))) := hid fun W X A c L hW hA hm hn => by
    have := lay_any13 hW L A c hA (by omega)
    rw [hm] at this
    exact this
  have HL8 := hid hw.len
  have HS8 := hid hs
  have HI := hid h
  have HOI := hid (itC_one (J.item n))
  have hVP : voidP (J.item n) n = if (J.item n).kind = 0 then [] else if (J.item n).kind = 3 then [lV (4 + s), lV (12 + s)] else [lV (12 + s), lV (4 + s)] := by unfold voidP; rw [hpn, hhn]
  have HDD := hid (decide_eq_true hk)
  have HVV : Hid (([.v (12 + s), .v (4 + s)] : List Ly).map Ly.lay = voidP (J.item n) n) := hid (by rw [hVP, if_neg (by rcases hk with q | q <;> rw [q] <;> decide), if_neg (by rcases hk with q | q <;> rw [q] <;> decide)]; rfl)
  rw [HDD.out] at HWS
  generalize layL S (voidP (J.item n) n) = RES at *
  obtain ⟨S1, z⟩ := RES
  generalize J.item n = x at *
  simp only at *
  subst hz0
  have HSLT := hid hslot
  clear h hw hc hh hk hso hslot hpn hhn hVP hs HDD h0
  go_enter Tryd.func20, Tryd.ntmps20
  go_wp2_with (first
    | (go_at_call 33; refine HHA.out.mono ?_; rintro x w3 ⟨rfl, hw3⟩; subst hw3)
    | (go_at_call 34; refine HSL.out.mono ?_; rintro x w4 ⟨rfl, hw4⟩; subst hw4)
    | (refine wpl_load_midw rfl 44 (.tmp 21) rfl jp (2 + s * 15) rfl (itC x) _ HXR.out Tryd.underlying44 rfl itemSize13 ?_)
    | ((with_reducible show wpList _ _ _ ({ dst := none, op := .store _ (.tmp 7) _, type := _, pos := _, after := _, guard := _ } :: _) _ _); refine wpl_store_st rfl (.tmp 7) (.tmp 22) rfl (n := 15) itemSize13 w.heap.size it0.cells x.cells rfl rfl (Row.new _ _ _) ?_ (hid rfl) (hid rfl) HOI; intro w5 hr5 hg5; obtain ⟨q1, q2⟩ := HI.out.one hg5; have H5 := hid q1; have E5 := hid q2; have R5 := hid hr5; have ck : w5.cell? ⟨w.heap.size, 0, none⟩ = some (.int .i64 x.kind) := hr5.at_ 0 _ rfl;  clear q1 q2 hr5 hg5)
    | (refine wpList_load_row rfl 44 (.tmp 7) rfl w.heap.size rfl 44 x.cells (0, 0) _ R5.out.arr Tryd.underlying44 rfl itemSize13 ?_)
    | (go_at_call 42; refine (HWS.out _).mono ?_; rintro y w6 ⟨rfl, hb6⟩; have H6 := hid (H5.out.new hb6).1; have E6 := hid (E5.out.trans (H5.out.new hb6).2.tail); have R6 := hid ((H5.out.new hb6).2.row R5.out (by simp)); have ck : w6.cell? ⟨w.heap.size, 0, none⟩ = some (.int .i64 x.kind) := R6.out.at_ 0 _ rfl;  clear hb6)
    | (go_at_call 43; refine (HHV.out _).mono ?_; rintro y w7 ⟨rfl, hb⟩; have H7 := hid (H6.out.new hb).1; have E7 := hid (E6.out.trans (H6.out.new hb).2.tail); clear hb)
    | (go_at_call 45; refine (HPV.out _).mono ?_; rintro y w8 ⟨rfl, hb⟩; have H8 := hid (H7.out.new hb).1; have E8 := hid (E7.out.trans (H7.out.new hb).2.tail); clear hb)
    | (refine wpl_slice2l rfl (.tmp 27) (.tmp 29) rfl (.int .i64 ((12 + s : Nat) : Int)) fvV (.int .i64 ((4 + s : Nat) : Int)) fvV rfl rfl Tryd.underlying82 i0 hi0 hi1 hi2 ?_; have q := H8.out.alloc (.cells #[.int .i64 ((12 + s : Nat) : Int), fvV, .int .i64 ((4 + s : Nat) : Int), fvV] 87); have H9 := hid q.1; have E9 := hid (E8.out.trans q.2.tail); have A9 : Hid (LyAt _ (w8.heap.size :: w.heap.size :: G) (some ⟨w8.heap.size, 0, none⟩) [.v (12 + s), .v (4 + s)]) := hid (LyAt.two (Row.new w8 87 #[.int .i64 ((12 + s : Nat) : Int), fvV, .int .i64 ((4 + s : Nat) : Int), fvV]) (by simp) trivial trivial); clear q)
    | (go_at_call 40; refine (HLY.out _ _ _ _ [.v (12 + s), .v (4 + s)] H9.out A9.out HVV.out (by simp)).mono ?_; rintro y w10 ⟨rfl, h10, k10⟩; have H10 := hid h10.tail; have E10 := hid (E9.out.trans k10.tail.tail); clear h10 k10)
    | (refine wpList_store_mid rfl 44 (.tmp 51) (.tmp 48) rfl jp (2 + s * 15) it0.cells rfl rfl (H10.out.there HS8.out _) itemSize13 (itC_one _) ?_; have H11 := hid (H10.out.setIt HL8.out HS8.out it0).1; have E11 := hid (E10.out.trans (H10.out.setIt HL8.out HS8.out it0).2.tail)))
  go_ret
  exact ⟨rfl, by rw [← HSLT.out]; exact H11.out.tail, E11.out⟩
set_option maxHeartbeats 4000000 in
theorem void_waser {w0 w : World} {jp p gs : Nat} {S : Sp} {J : Jn} {G : List Nat} (h : Jd w0 w jp p gs S J G) (hw : JWf J) (n : Int) (hh : J.has n) (hk : (J.item n).kind = 1 ∨ (J.item n).kind = 2) (hz0 : (layL S (voidP (J.item n) n)).2 ≠ 0) (hc : S.count ≤ 900000) :
    Calls Tryd.prog 20 #[.pointer (some ⟨jp, 0, none⟩), .int .i64 n] w (JC w0 w jp p gs (layL S (voidP (J.item n) n)).1 J G (.int .i64 (layL S (voidP (J.item n) n)).2)) := by
  obtain ⟨i0, hi0, hi1, hi2⟩ := layInfo
  have HHA : Hid (Calls Tryd.prog 33 #[.pointer (some ⟨jp, 0, none⟩), .int .i64 n] w fun x w' => x = .returned (.bool true) ∧ w = w') := hid (by
    have := has_any13 h hw.c0 hw.c1 n
    rw [decide_eq_true hh] at this
    exact this)
  obtain ⟨s, hs, hso⟩ : ∃ s : Nat, s < 8 ∧ n % 8 = s := ⟨(n % 8).toNat, by omega, by omega⟩
  have h0 := hw.c0
  have hslot : slotN J.c s = n := by
    have := slotN_of hh
    rw [show (n % 8).toNat = s by omega] at this
    exact this
  have HSL : Hid (Calls Tryd.prog 34 #[.int .i64 n] w fun x w' => x = .returned (.int .i64 (s : Int)) ∧ w = w') := hid (by
    have := slotOf_any n (by have := hh.1; omega) w
    rw [hso] at this
    exact this)
  have hb : (s : Int) < 8 := by omega
  have hpn : pN n = 4 + s := by unfold pN; omega
  have hhn : hN n = 12 + s := by unfold hN; omega
  have HXR : Hid (w.rangeAt jp (2 + s * 15) (itC (J.item n))) := hid (by
    have := h.range hs
    rw [hslot] at this
    exact this)
  have HPV : Hid (∀ W, Calls Tryd.prog 45 #[.int .i64 (s : Int), .func (.func 44) #[] #[]] W (VE W (.agg #[.int .i64 ((4 + s : Nat) : Int), fvV]))) := hid fun W => prep_v s W hs
  have HHV : Hid (∀ W, Calls Tryd.prog 43 #[.int .i64 (s : Int), .func (.func 44) #[] #[]] W (VE W (.agg #[.int .i64 ((12 + s : Nat) : Int), fvV]))) := hid fun W => head_v s W hs
  have HWS : Hid (∀ W, Calls Tryd.prog 42 #[.agg (J.item n).cells] W fun e w' => e = .returned (.bool (decide ((J.item n).kind = 1 ∨ (J.item n).kind = 2))) ∧ Below W.heap.size W w') := hid fun W => was_any _ W
  have HLY : Hid (∀ W (X : List Nat) A c L, Jd w0 W jp p gs S J X → LyAt W X A L → L.map Ly.lay = voidP (J.item n) n → L.length ≤ 2 → Calls Tryd.prog 40 #[.pointer (some ⟨jp, 0, none⟩), .slice A (List.length L) c] W (JC w0 W jp p gs (layL S (voidP (J.item n) n)).1 J X (.int .i64 (layL S (voidP (J.item n) n)).2))) := hid fun W X A c L hW hA hm hn => by
    have := lay_any13 hW L A c hA (by omega)
    rw [hm] at this
    exact this
  have HL8 := hid hw.len
  have HS8 := hid hs
  have HI := hid h
  have HOI := hid (itC_one (J.item n))
  have hVP : voidP (J.item n) n = if (J.item n).kind = 0 then [] else if (J.item n).kind = 3 then [lV (4 + s), lV (12 + s)] else [lV (12 + s), lV (4 + s)] := by unfold voidP; rw [hpn, hhn]
  have HDD := hid (decide_eq_true hk)
  have HVV : Hid (([.v (12 + s), .v (4 + s)] : List Ly).map Ly.lay = voidP (J.item n) n) := hid (by rw [hVP, if_neg (by rcases hk with q | q <;> rw [q] <;> decide), if_neg (by rcases hk with q | q <;> rw [q] <;> decide)]; rfl)
  rw [HDD.out] at HWS
  generalize layL S (voidP (J.item n) n) = RES at *
  obtain ⟨S1, z⟩ := RES
  generalize J.item n = x at *
  simp only at *
  have HZ0 := hid (show (z != 0) = true by simpa using hz0)
  have HSLT := hid hslot
  clear h hw hc hh hk hso hslot hpn hhn hVP hs HDD h0 hz0
  have hz0 := HZ0.out
  go_enter Tryd.func20, Tryd.ntmps20
  go_wp2_with (first
    | (go_at_call 33; refine HHA.out.mono ?_; rintro x w3 ⟨rfl, hw3⟩; subst hw3)
    | (go_at_call 34; refine HSL.out.mono ?_; rintro x w4 ⟨rfl, hw4⟩; subst hw4)
    | (refine wpl_load_midw rfl 44 (.tmp 21) rfl jp (2 + s * 15) rfl (itC x) _ HXR.out Tryd.underlying44 rfl itemSize13 ?_)
    | ((with_reducible show wpList _ _ _ ({ dst := none, op := .store _ (.tmp 7) _, type := _, pos := _, after := _, guard := _ } :: _) _ _); refine wpl_store_st rfl (.tmp 7) (.tmp 22) rfl (n := 15) itemSize13 w.heap.size it0.cells x.cells rfl rfl (Row.new _ _ _) ?_ (hid rfl) (hid rfl) HOI; intro w5 hr5 hg5; obtain ⟨q1, q2⟩ := HI.out.one hg5; have H5 := hid q1; have E5 := hid q2; have R5 := hid hr5; have ck : w5.cell? ⟨w.heap.size, 0, none⟩ = some (.int .i64 x.kind) := hr5.at_ 0 _ rfl;  clear q1 q2 hr5 hg5)
    | (refine wpList_load_row rfl 44 (.tmp 7) rfl w.heap.size rfl 44 x.cells (0, 0) _ R5.out.arr Tryd.underlying44 rfl itemSize13 ?_)
    | (go_at_call 42; refine (HWS.out _).mono ?_; rintro y w6 ⟨rfl, hb6⟩; have H6 := hid (H5.out.new hb6).1; have E6 := hid (E5.out.trans (H5.out.new hb6).2.tail); have R6 := hid ((H5.out.new hb6).2.row R5.out (by simp)); have ck : w6.cell? ⟨w.heap.size, 0, none⟩ = some (.int .i64 x.kind) := R6.out.at_ 0 _ rfl;  clear hb6)
    | (go_at_call 43; refine (HHV.out _).mono ?_; rintro y w7 ⟨rfl, hb⟩; have H7 := hid (H6.out.new hb).1; have E7 := hid (E6.out.trans (H6.out.new hb).2.tail); clear hb)
    | (go_at_call 45; refine (HPV.out _).mono ?_; rintro y w8 ⟨rfl, hb⟩; have H8 := hid (H7.out.new hb).1; have E8 := hid (E7.out.trans (H7.out.new hb).2.tail); clear hb)
    | (refine wpl_slice2l rfl (.tmp 27) (.tmp 29) rfl (.int .i64 ((12 + s : Nat) : Int)) fvV (.int .i64 ((4 + s : Nat) : Int)) fvV rfl rfl Tryd.underlying82 i0 hi0 hi1 hi2 ?_; have q := H8.out.alloc (.cells #[.int .i64 ((12 + s : Nat) : Int), fvV, .int .i64 ((4 + s : Nat) : Int), fvV] 87); have H9 := hid q.1; have E9 := hid (E8.out.trans q.2.tail); have A9 : Hid (LyAt _ (w8.heap.size :: w.heap.size :: G) (some ⟨w8.heap.size, 0, none⟩) [.v (12 + s), .v (4 + s)]) := hid (LyAt.two (Row.new w8 87 #[.int .i64 ((12 + s : Nat) : Int), fvV, .int .i64 ((4 + s : Nat) : Int), fvV]) (by simp) trivial trivial); clear q)
    | (go_at_call 40; refine (HLY.out _ _ _ _ [.v (12 + s), .v (4 + s)] H9.out A9.out HVV.out (by simp)).mono ?_; rintro y w10 ⟨rfl, h10, k10⟩; have H10 := hid h10.tail; have E10 := hid (E9.out.trans k10.tail.tail); clear h10 k10))
  go_ret
  exact ⟨rfl, H10.out.tail, E10.out⟩
set_option maxHeartbeats 4000000 in
theorem void_unsok {w0 w : World} {jp p gs : Nat} {S : Sp} {J : Jn} {G : List Nat} (h : Jd w0 w jp p gs S J G) (hw : JWf J) (n : Int) (hh : J.has n) (hk : (J.item n).kind = 3) (hz0 : (layL S (voidP (J.item n) n)).2 = 0) (hc : S.count ≤ 900000) :
    Calls Tryd.prog 20 #[.pointer (some ⟨jp, 0, none⟩), .int .i64 n] w (JC w0 w jp p gs (layL S (voidP (J.item n) n)).1 (J.set n it0) G (.int .i64 0)) := by
  obtain ⟨i0, hi0, hi1, hi2⟩ := layInfo
  have HHA : Hid (Calls Tryd.prog 33 #[.pointer (some ⟨jp, 0, none⟩), .int .i64 n] w fun x w' => x = .returned (.bool true) ∧ w = w') := hid (by
    have := has_any13 h hw.c0 hw.c1 n
    rw [decide_eq_true hh] at this
    exact this)
  obtain ⟨s, hs, hso⟩ : ∃ s : Nat, s < 8 ∧ n % 8 = s := ⟨(n % 8).toNat, by omega, by omega⟩
  have h0 := hw.c0
  have hslot : slotN J.c s = n := by
    have := slotN_of hh
    rw [show (n % 8).toNat = s by omega] at this
    exact this
  have HSL : Hid (Calls Tryd.prog 34 #[.int .i64 n] w fun x w' => x = .returned (.int .i64 (s : Int)) ∧ w = w') := hid (by
    have := slotOf_any n (by have := hh.1; omega) w
    rw [hso] at this
    exact this)
  have hb : (s : Int) < 8 := by omega
  have hpn : pN n = 4 + s := by unfold pN; omega
  have hhn : hN n = 12 + s := by unfold hN; omega
  have HXR : Hid (w.rangeAt jp (2 + s * 15) (itC (J.item n))) := hid (by
    have := h.range hs
    rw [hslot] at this
    exact this)
  have HPV : Hid (∀ W, Calls Tryd.prog 45 #[.int .i64 (s : Int), .func (.func 44) #[] #[]] W (VE W (.agg #[.int .i64 ((4 + s : Nat) : Int), fvV]))) := hid fun W => prep_v s W hs
  have HHV : Hid (∀ W, Calls Tryd.prog 43 #[.int .i64 (s : Int), .func (.func 44) #[] #[]] W (VE W (.agg #[.int .i64 ((12 + s : Nat) : Int), fvV]))) := hid fun W => head_v s W hs
  have HWS : Hid (∀ W, Calls Tryd.prog 42 #[.agg (J.item n).cells] W fun e w' => e = .returned (.bool (decide ((J.item n).kind = 1 ∨ (J.item n).kind = 2))) ∧ Below W.heap.size W w') := hid fun W => was_any _ W
  have HLY : Hid (∀ W (X : List Nat) A c L, Jd w0 W jp p gs S J X → LyAt W X A L → L.map Ly.lay = voidP (J.item n) n → L.length ≤ 2 → Calls Tryd.prog 40 #[.pointer (some ⟨jp, 0, none⟩), .slice A (List.length L) c] W (JC w0 W jp p gs (layL S (voidP (J.item n) n)).1 J X (.int .i64 (layL S (voidP (J.item n) n)).2))) := hid fun W X A c L hW hA hm hn => by
    have := lay_any13 hW L A c hA (by omega)
    rw [hm] at this
    exact this
  have HL8 := hid hw.len
  have HS8 := hid hs
  have HI := hid h
  have HOI := hid (itC_one (J.item n))
  have hVP : voidP (J.item n) n = if (J.item n).kind = 0 then [] else if (J.item n).kind = 3 then [lV (4 + s), lV (12 + s)] else [lV (12 + s), lV (4 + s)] := by unfold voidP; rw [hpn, hhn]
  have HDD : Hid (decide ((J.item n).kind = 1 ∨ (J.item n).kind = 2) = false) := hid (by rw [hk]; rfl)
  have HVV : Hid (([.v (4 + s), .v (12 + s)] : List Ly).map Ly.lay = voidP (J.item n) n) := hid (by rw [hVP, if_neg (by rw [hk]; decide), if_pos hk]; rfl)
  have HKK := hid hk
  rw [HDD.out] at HWS
  generalize layL S (voidP (J.item n) n) = RES at *
  obtain ⟨S1, z⟩ := RES
  generalize J.item n = x at *
  simp only at *
  subst hz0
  have HSLT := hid hslot
  clear h hw hc hh hk hso hslot hpn hhn hVP hs HDD h0
  go_enter Tryd.func20, Tryd.ntmps20
  go_wp2_with (first
    | (go_at_call 33; refine HHA.out.mono ?_; rintro x w3 ⟨rfl, hw3⟩; subst hw3)
    | (go_at_call 34; refine HSL.out.mono ?_; rintro x w4 ⟨rfl, hw4⟩; subst hw4)
    | (refine wpl_load_midw rfl 44 (.tmp 21) rfl jp (2 + s * 15) rfl (itC x) _ HXR.out Tryd.underlying44 rfl itemSize13 ?_)
    | ((with_reducible show wpList _ _ _ ({ dst := none, op := .store _ (.tmp 7) _, type := _, pos := _, after := _, guard := _ } :: _) _ _); refine wpl_store_st rfl (.tmp 7) (.tmp 22) rfl (n := 15) itemSize13 w.heap.size it0.cells x.cells rfl rfl (Row.new _ _ _) ?_ (hid rfl) (hid rfl) HOI; intro w5 hr5 hg5; obtain ⟨q1, q2⟩ := HI.out.one hg5; have H5 := hid q1; have E5 := hid q2; have R5 := hid hr5; have ck : w5.cell? ⟨w.heap.size, 0, none⟩ = some (.int .i64 x.kind) := hr5.at_ 0 _ rfl; rw [HKK.out] at ck; clear q1 q2 hr5 hg5)
    | (refine wpList_load_row rfl 44 (.tmp 7) rfl w.heap.size rfl 44 x.cells (0, 0) _ R5.out.arr Tryd.underlying44 rfl itemSize13 ?_)
    | (go_at_call 42; refine (HWS.out _).mono ?_; rintro y w6 ⟨rfl, hb6⟩; have H6 := hid (H5.out.new hb6).1; have E6 := hid (E5.out.trans (H5.out.new hb6).2.tail); have R6 := hid ((H5.out.new hb6).2.row R5.out (by simp)); have ck : w6.cell? ⟨w.heap.size, 0, none⟩ = some (.int .i64 x.kind) := R6.out.at_ 0 _ rfl; rw [HKK.out] at ck; clear hb6)
    | (go_at_call 45; refine (HPV.out _).mono ?_; rintro y w7 ⟨rfl, hb⟩; have H7 := hid (H6.out.new hb).1; have E7 := hid (E6.out.trans (H6.out.new hb).2.tail); clear hb)
    | (go_at_call 43; refine (HHV.out _).mono ?_; rintro y w8 ⟨rfl, hb⟩; have H8 := hid (H7.out.new hb).1; have E8 := hid (E7.out.trans (H7.out.new hb).2.tail); clear hb)
    | (refine wpl_slice2l rfl (.tmp 36) (.tmp 38) rfl (.int .i64 ((4 + s : Nat) : Int)) fvV (.int .i64 ((12 + s : Nat) : Int)) fvV rfl rfl Tryd.underlying82 i0 hi0 hi1 hi2 ?_; have q := H8.out.alloc (.cells #[.int .i64 ((4 + s : Nat) : Int), fvV, .int .i64 ((12 + s : Nat) : Int), fvV] 87); have H9 := hid q.1; have E9 := hid (E8.out.trans q.2.tail); have A9 : Hid (LyAt _ (w8.heap.size :: w.heap.size :: G) (some ⟨w8.heap.size, 0, none⟩) [.v (4 + s), .v (12 + s)]) := hid (LyAt.two (Row.new w8 87 #[.int .i64 ((4 + s : Nat) : Int), fvV, .int .i64 ((12 + s : Nat) : Int), fvV]) (by simp) trivial trivial); clear q)
    | (go_at_call 40; refine (HLY.out _ _ _ _ [.v (4 + s), .v (12 + s)] H9.out A9.out HVV.out (by simp)).mono ?_; rintro y w10 ⟨rfl, h10, k10⟩; have H10 := hid h10.tail; have E10 := hid (E9.out.trans k10.tail.tail); clear h10 k10)
    | (refine wpList_store_mid rfl 44 (.tmp 51) (.tmp 48) rfl jp (2 + s * 15) it0.cells rfl rfl (H10.out.there HS8.out _) itemSize13 (itC_one _) ?_; have H11 := hid (H10.out.setIt HL8.out HS8.out it0).1; have E11 := hid (E10.out.trans (H10.out.setIt HL8.out HS8.out it0).2.tail)))
  go_ret
  exact ⟨rfl, by rw [← HSLT.out]; exact H11.out.tail, E11.out⟩
set_option maxHeartbeats 4000000 in
theorem void_unser {w0 w : World} {jp p gs : Nat} {S : Sp} {J : Jn} {G : List Nat} (h : Jd w0 w jp p gs S J G) (hw : JWf J) (n : Int) (hh : J.has n) (hk : (J.item n).kind = 3) (hz0 : (layL S (voidP (J.item n) n)).2 ≠ 0) (hc : S.count ≤ 900000) :
    Calls Tryd.prog 20 #[.pointer (some ⟨jp, 0, none⟩), .int .i64 n] w (JC w0 w jp p gs (layL S (voidP (J.item n) n)).1 J G (.int .i64 (layL S (voidP (J.item n) n)).2)) := by
  obtain ⟨i0, hi0, hi1, hi2⟩ := layInfo
  have HHA : Hid (Calls Tryd.prog 33 #[.pointer (some ⟨jp, 0, none⟩), .int .i64 n] w fun x w' => x = .returned (.bool true) ∧ w = w') := hid (by
    have := has_any13 h hw.c0 hw.c1 n
    rw [decide_eq_true hh] at this
    exact this)
  obtain ⟨s, hs, hso⟩ : ∃ s : Nat, s < 8 ∧ n % 8 = s := ⟨(n % 8).toNat, by omega, by omega⟩
  have h0 := hw.c0
  have hslot : slotN J.c s = n := by
    have := slotN_of hh
    rw [show (n % 8).toNat = s by omega] at this
    exact this
  have HSL : Hid (Calls Tryd.prog 34 #[.int .i64 n] w fun x w' => x = .returned (.int .i64 (s : Int)) ∧ w = w') := hid (by
    have := slotOf_any n (by have := hh.1; omega) w
    rw [hso] at this
    exact this)
  have hb : (s : Int) < 8 := by omega
  have hpn : pN n = 4 + s := by unfold pN; omega
  have hhn : hN n = 12 + s := by unfold hN; omega
  have HXR : Hid (w.rangeAt jp (2 + s * 15) (itC (J.item n))) := hid (by
    have := h.range hs
    rw [hslot] at this
    exact this)
  have HPV : Hid (∀ W, Calls Tryd.prog 45 #[.int .i64 (s : Int), .func (.func 44) #[] #[]] W (VE W (.agg #[.int .i64 ((4 + s : Nat) : Int), fvV]))) := hid fun W => prep_v s W hs
  have HHV : Hid (∀ W, Calls Tryd.prog 43 #[.int .i64 (s : Int), .func (.func 44) #[] #[]] W (VE W (.agg #[.int .i64 ((12 + s : Nat) : Int), fvV]))) := hid fun W => head_v s W hs
  have HWS : Hid (∀ W, Calls Tryd.prog 42 #[.agg (J.item n).cells] W fun e w' => e = .returned (.bool (decide ((J.item n).kind = 1 ∨ (J.item n).kind = 2))) ∧ Below W.heap.size W w') := hid fun W => was_any _ W
  have HLY : Hid (∀ W (X : List Nat) A c L, Jd w0 W jp p gs S J X → LyAt W X A L → L.map Ly.lay = voidP (J.item n) n → L.length ≤ 2 → Calls Tryd.prog 40 #[.pointer (some ⟨jp, 0, none⟩), .slice A (List.length L) c] W (JC w0 W jp p gs (layL S (voidP (J.item n) n)).1 J X (.int .i64 (layL S (voidP (J.item n) n)).2))) := hid fun W X A c L hW hA hm hn => by
    have := lay_any13 hW L A c hA (by omega)
    rw [hm] at this
    exact this
  have HL8 := hid hw.len
  have HS8 := hid hs
  have HI := hid h
  have HOI := hid (itC_one (J.item n))
  have hVP : voidP (J.item n) n = if (J.item n).kind = 0 then [] else if (J.item n).kind = 3 then [lV (4 + s), lV (12 + s)] else [lV (12 + s), lV (4 + s)] := by unfold voidP; rw [hpn, hhn]
  have HDD : Hid (decide ((J.item n).kind = 1 ∨ (J.item n).kind = 2) = false) := hid (by rw [hk]; rfl)
  have HVV : Hid (([.v (4 + s), .v (12 + s)] : List Ly).map Ly.lay = voidP (J.item n) n) := hid (by rw [hVP, if_neg (by rw [hk]; decide), if_pos hk]; rfl)
  have HKK := hid hk
  rw [HDD.out] at HWS
  generalize layL S (voidP (J.item n) n) = RES at *
  obtain ⟨S1, z⟩ := RES
  generalize J.item n = x at *
  simp only at *
  have HZ0 := hid (show (z != 0) = true by simpa using hz0)
  have HSLT := hid hslot
  clear h hw hc hh hk hso hslot hpn hhn hVP hs HDD h0 hz0
  have hz0 := HZ0.out
  go_enter Tryd.func20, Tryd.ntmps20
  go_wp2_with (first
    | (go_at_call 33; refine HHA.out.mono ?_; rintro x w3 ⟨rfl, hw3⟩; subst hw3)
    | (go_at_call 34; refine HSL.out.mono ?_; rintro x w4 ⟨rfl, hw4⟩; subst hw4)
    | (refine wpl_load_midw rfl 44 (.tmp 21) rfl jp (2 + s * 15) rfl (itC x) _ HXR.out Tryd.underlying44 rfl itemSize13 ?_)
    | ((with_reducible show wpList _ _ _ ({ dst := none, op := .store _ (.tmp 7) _, type := _, pos := _, after := _, guard := _ } :: _) _ _); refine wpl_store_st rfl (.tmp 7) (.tmp 22) rfl (n := 15) itemSize13 w.heap.size it0.cells x.cells rfl rfl (Row.new _ _ _) ?_ (hid rfl) (hid rfl) HOI; intro w5 hr5 hg5; obtain ⟨q1, q2⟩ := HI.out.one hg5; have H5 := hid q1; have E5 := hid q2; have R5 := hid hr5; have ck : w5.cell? ⟨w.heap.size, 0, none⟩ = some (.int .i64 x.kind) := hr5.at_ 0 _ rfl; rw [HKK.out] at ck; clear q1 q2 hr5 hg5)
    | (refine wpList_load_row rfl 44 (.tmp 7) rfl w.heap.size rfl 44 x.cells (0, 0) _ R5.out.arr Tryd.underlying44 rfl itemSize13 ?_)
    | (go_at_call 42; refine (HWS.out _).mono ?_; rintro y w6 ⟨rfl, hb6⟩; have H6 := hid (H5.out.new hb6).1; have E6 := hid (E5.out.trans (H5.out.new hb6).2.tail); have R6 := hid ((H5.out.new hb6).2.row R5.out (by simp)); have ck : w6.cell? ⟨w.heap.size, 0, none⟩ = some (.int .i64 x.kind) := R6.out.at_ 0 _ rfl; rw [HKK.out] at ck; clear hb6)
    | (go_at_call 45; refine (HPV.out _).mono ?_; rintro y w7 ⟨rfl, hb⟩; have H7 := hid (H6.out.new hb).1; have E7 := hid (E6.out.trans (H6.out.new hb).2.tail); clear hb)
    | (go_at_call 43; refine (HHV.out _).mono ?_; rintro y w8 ⟨rfl, hb⟩; have H8 := hid (H7.out.new hb).1; have E8 := hid (E7.out.trans (H7.out.new hb).2.tail); clear hb)
    | (refine wpl_slice2l rfl (.tmp 36) (.tmp 38) rfl (.int .i64 ((4 + s : Nat) : Int)) fvV (.int .i64 ((12 + s : Nat) : Int)) fvV rfl rfl Tryd.underlying82 i0 hi0 hi1 hi2 ?_; have q := H8.out.alloc (.cells #[.int .i64 ((4 + s : Nat) : Int), fvV, .int .i64 ((12 + s : Nat) : Int), fvV] 87); have H9 := hid q.1; have E9 := hid (E8.out.trans q.2.tail); have A9 : Hid (LyAt _ (w8.heap.size :: w.heap.size :: G) (some ⟨w8.heap.size, 0, none⟩) [.v (4 + s), .v (12 + s)]) := hid (LyAt.two (Row.new w8 87 #[.int .i64 ((4 + s : Nat) : Int), fvV, .int .i64 ((12 + s : Nat) : Int), fvV]) (by simp) trivial trivial); clear q)
    | (go_at_call 40; refine (HLY.out _ _ _ _ [.v (4 + s), .v (12 + s)] H9.out A9.out HVV.out (by simp)).mono ?_; rintro y w10 ⟨rfl, h10, k10⟩; have H10 := hid h10.tail; have E10 := hid (E9.out.trans k10.tail.tail); clear h10 k10))
  go_ret
  exact ⟨rfl, H10.out.tail, E10.out⟩
set_option maxHeartbeats 4000000 in
theorem void_lacok {w0 w : World} {jp p gs : Nat} {S : Sp} {J : Jn} {G : List Nat} (h : Jd w0 w jp p gs S J G) (hw : JWf J) (n : Int) (hh : J.has n) (hk : (J.item n).kind = 0) (hz0 : (layL S (voidP (J.item n) n)).2 = 0) (hc : S.count ≤ 900000) :
    Calls Tryd.prog 20 #[.pointer (some ⟨jp, 0, none⟩), .int .i64 n] w (JC w0 w jp p gs (layL S (voidP (J.item n) n)).1 (J.set n it0) G (.int .i64 0)) := by
  obtain ⟨i0, hi0, hi1, hi2⟩ := layInfo
  have HHA : Hid (Calls Tryd.prog 33 #[.pointer (some ⟨jp, 0, none⟩), .int .i64 n] w fun x w' => x = .returned (.bool true) ∧ w = w') := hid (by
    have := has_any13 h hw.c0 hw.c1 n
    rw [decide_eq_true hh] at this
    exact this)
  obtain ⟨s, hs, hso⟩ : ∃ s : Nat, s < 8 ∧ n % 8 = s := ⟨(n % 8).toNat, by omega, by omega⟩
  have h0 := hw.c0
  have hslot : slotN J.c s = n := by
    have := slotN_of hh
    rw [show (n % 8).toNat = s by omega] at this
    exact this
  have HSL : Hid (Calls Tryd.prog 34 #[.int .i64 n] w fun x w' => x = .returned (.int .i64 (s : Int)) ∧ w = w') := hid (by
    have := slotOf_any n (by have := hh.1; omega) w
    rw [hso] at this
    exact this)
  have hb : (s : Int) < 8 := by omega
  have hpn : pN n = 4 + s := by unfold pN; omega
  have hhn : hN n = 12 + s := by unfold hN; omega
  have HXR : Hid (w.rangeAt jp (2 + s * 15) (itC (J.item n))) := hid (by
    have := h.range hs
    rw [hslot] at this
    exact this)
  have HPV : Hid (∀ W, Calls Tryd.prog 45 #[.int .i64 (s : Int), .func (.func 44) #[] #[]] W (VE W (.agg #[.int .i64 ((4 + s : Nat) : Int), fvV]))) := hid fun W => prep_v s W hs
  have HHV : Hid (∀ W, Calls Tryd.prog 43 #[.int .i64 (s : Int), .func (.func 44) #[] #[]] W (VE W (.agg #[.int .i64 ((12 + s : Nat) : Int), fvV]))) := hid fun W => head_v s W hs
  have HWS : Hid (∀ W, Calls Tryd.prog 42 #[.agg (J.item n).cells] W fun e w' => e = .returned (.bool (decide ((J.item n).kind = 1 ∨ (J.item n).kind = 2))) ∧ Below W.heap.size W w') := hid fun W => was_any _ W
  have HLY : Hid (∀ W (X : List Nat) A c L, Jd w0 W jp p gs S J X → LyAt W X A L → L.map Ly.lay = voidP (J.item n) n → L.length ≤ 2 → Calls Tryd.prog 40 #[.pointer (some ⟨jp, 0, none⟩), .slice A (List.length L) c] W (JC w0 W jp p gs (layL S (voidP (J.item n) n)).1 J X (.int .i64 (layL S (voidP (J.item n) n)).2))) := hid fun W X A c L hW hA hm hn => by
    have := lay_any13 hW L A c hA (by omega)
    rw [hm] at this
    exact this
  have HL8 := hid hw.len
  have HS8 := hid hs
  have HI := hid h
  have HOI := hid (itC_one (J.item n))
  have hVP : voidP (J.item n) n = if (J.item n).kind = 0 then [] else if (J.item n).kind = 3 then [lV (4 + s), lV (12 + s)] else [lV (12 + s), lV (4 + s)] := by unfold voidP; rw [hpn, hhn]
  have HDD : Hid (decide ((J.item n).kind = 1 ∨ (J.item n).kind = 2) = false) := hid (by rw [hk]; rfl)
  have HVV : Hid (([] : List Ly).map Ly.lay = voidP (J.item n) n) := hid (by rw [hVP, if_pos hk]; rfl)
  have HKK := hid hk
  rw [HDD.out] at HWS
  generalize layL S (voidP (J.item n) n) = RES at *
  obtain ⟨S1, z⟩ := RES
  generalize J.item n = x at *
  simp only at *
  subst hz0
  have HSLT := hid hslot
  clear h hw hc hh hk hso hslot hpn hhn hVP hs HDD h0
  go_enter Tryd.func20, Tryd.ntmps20
  go_wp2_with (first
    | (go_at_call 33; refine HHA.out.mono ?_; rintro x w3 ⟨rfl, hw3⟩; subst hw3)
    | (go_at_call 34; refine HSL.out.mono ?_; rintro x w4 ⟨rfl, hw4⟩; subst hw4)
    | (refine wpl_load_midw rfl 44 (.tmp 21) rfl jp (2 + s * 15) rfl (itC x) _ HXR.out Tryd.underlying44 rfl itemSize13 ?_)
    | ((with_reducible show wpList _ _ _ ({ dst := none, op := .store _ (.tmp 7) _, type := _, pos := _, after := _, guard := _ } :: _) _ _); refine wpl_store_st rfl (.tmp 7) (.tmp 22) rfl (n := 15) itemSize13 w.heap.size it0.cells x.cells rfl rfl (Row.new _ _ _) ?_ (hid rfl) (hid rfl) HOI; intro w5 hr5 hg5; obtain ⟨q1, q2⟩ := HI.out.one hg5; have H5 := hid q1; have E5 := hid q2; have R5 := hid hr5; have ck : w5.cell? ⟨w.heap.size, 0, none⟩ = some (.int .i64 x.kind) := hr5.at_ 0 _ rfl; rw [HKK.out] at ck; clear q1 q2 hr5 hg5)
    | (refine wpList_load_row rfl 44 (.tmp 7) rfl w.heap.size rfl 44 x.cells (0, 0) _ R5.out.arr Tryd.underlying44 rfl itemSize13 ?_)
    | (go_at_call 42; refine (HWS.out _).mono ?_; rintro y w6 ⟨rfl, hb6⟩; have H6 := hid (H5.out.new hb6).1; have E6 := hid (E5.out.trans (H5.out.new hb6).2.tail); have R6 := hid ((H5.out.new hb6).2.row R5.out (by simp)); have ck : w6.cell? ⟨w.heap.size, 0, none⟩ = some (.int .i64 x.kind) := R6.out.at_ 0 _ rfl; rw [HKK.out] at ck; clear hb6)
    | (go_at_call 40; refine (HLY.out _ _ none 0 [] H6.out ⟨by simp, by simp⟩ HVV.out (by simp)).mono ?_; rintro y w10 ⟨rfl, h10, k10⟩; have H10 := hid h10; have E10 := hid (E6.out.trans k10.tail); clear h10 k10)
    | (refine wpList_store_mid rfl 44 (.tmp 51) (.tmp 48) rfl jp (2 + s * 15) it0.cells rfl rfl (H10.out.there HS8.out _) itemSize13 (itC_one _) ?_; have H11 := hid (H10.out.setIt HL8.out HS8.out it0).1; have E11 := hid (E10.out.trans (H10.out.setIt HL8.out HS8.out it0).2.tail)))
  go_ret
  exact ⟨rfl, by rw [← HSLT.out]; exact H11.out.tail, E11.out⟩
theorem void_any13 {w0 w : World} {jp p gs : Nat} {S : Sp} {J : Jn} {G : List Nat} (h : Jd w0 w jp p gs S J G) (hw : JWf J) (n : Int) (hc : S.count ≤ 900000) :
    Calls Tryd.prog 20 #[.pointer (some ⟨jp, 0, none⟩), .int .i64 n] w (JC w0 w jp p gs (voidJ S J n).1 (voidJ S J n).2.1 G (.int .i64 (voidJ S J n).2.2)) := by
  by_cases hh : J.has n
  · rw [void_eq hw hh]
    have hk : ((J.item n).kind = 1 ∨ (J.item n).kind = 2) ∨ (J.item n).kind = 3 ∨ (J.item n).kind = 0 := by
      rcases hw.it _ hh with e | ⟨y, _, _, _, e⟩ | ⟨s, _, _, _, e⟩ | e <;> rw [e]
      · exact .inr (.inr rfl)
      · exact .inl (.inl rfl)
      · exact .inl (.inr rfl)
      · exact .inr (.inl rfl)
    by_cases hz : (layL S (voidP (J.item n) n)).2 = 0
    · rw [if_pos hz]
      rcases hk with hk | hk | hk
      · exact void_wasok h hw n hh hk hz hc
      · exact void_unsok h hw n hh hk hz hc
      · exact void_lacok h hw n hh hk hz hc
    · rw [if_neg hz]
      rcases hk with hk | hk | hk
      · exact void_waser h hw n hh hk hz hc
      · exact void_unser h hw n hh hk hz hc
      · exact absurd (by unfold voidP; rw [if_pos hk]; rfl) hz
  · have e1 : voidJ S J n = (S, J, 1) := by unfold voidJ; rw [if_pos hh]
    rw [e1]
    exact void_argj h hw n hh hc
end Go.Proofs.YtafbeepacncooaaDoor
/-
  The walk of package journal's Shift.
-/
namespace Go.Proofs.YtafbeepacncooaaDoor
open Go.RowKit
set_option maxRecDepth 10000

/-- slots are let go, from an operation on -/
def clrJ (J : Jn) (lo : Int) : Nat → Jn
  | 0 => J
  | k + 1 => (clrJ J lo k).set (slotN J.c ((lo + (k : Int)) % 8).toNat) it0
theorem clr_c (J : Jn) (lo : Int) : ∀ k, (clrJ J lo k).c = J.c
  | 0 => rfl
  | k + 1 => clr_c J lo k
theorem clr_len (J : Jn) (hl : J.x.length = 8) (lo : Int) : ∀ k, (clrJ J lo k).x.length = 8
  | 0 => hl
  | k + 1 => by
    have := clr_len J hl lo k
    simpa [clrJ, Jn.set] using this
theorem clr_item (J : Jn) (hl : J.x.length = 8) (lo : Int) {s : Nat} (hs : s < 8) : ∀ k, (clrJ J lo k).item (slotN J.c s) = if ∃ j, j < k ∧ ((lo + ((j : Nat) : Int)) % 8).toNat = s then it0 else J.item (slotN J.c s)
  | 0 => by simp [clrJ]
  | k + 1 => by
    have ih := clr_item J hl lo hs k
    have h8 : ((lo + (k : Int)) % 8).toNat < 8 := by omega
    rw [clrJ, set_item (clr_len J hl lo k) _ (by unfold Jn.has; rw [clr_c]; exact slotN_in J.c _)]
    by_cases e : ((lo + (k : Int)) % 8).toNat = s
    · rw [if_pos (by rw [e]), if_pos ⟨k, by omega, e⟩]
    · rw [if_neg, ih]
      · congr 1
        apply propext
        constructor
        · rintro ⟨j, h1, h2⟩
          exact ⟨j, by omega, h2⟩
        · rintro ⟨j, h1, h2⟩
          refine ⟨j, ?_, h2⟩
          have : j ≠ k := fun q => e (by rw [← q]; exact h2)
          omega
      · intro q
        have m1 := slotN_mod J.c s hs
        have m2 := slotN_mod J.c _ h8
        rw [q] at m1
        omega
/-- the journal behind a shift -/
def shiftJ' (J : Jn) (c : Int) : Jn := ⟨c, (List.range 8).map fun (k : Nat) => J.item (c + 1 + (k : Int))⟩
theorem shift_slots {J : Jn} (hw : JWf J) {c : Int} (h1 : J.c ≤ c) (lo : Int) (hlo : lo = (if J.c + 8 ≤ c then c else J.c + 8) + 1) {k : Nat} (hk : lo + (k : Int) = c + 9 ∨ (k = 0 ∧ c + 9 ≤ lo)) :
    (clrJ J lo k).slots = (shiftJ' J c).slots := by
  have h0 := hw.c0
  have hx : ∀ n, c < n → n ≤ c + 8 → (shiftJ' J c).item n = J.item n := fun n n1 n2 => by
    unfold Jn.item shiftJ'
    rw [if_pos (show Jn.has ⟨c, _⟩ n from ⟨n1, n2⟩)]
    show (List.map _ _).getD (n - c - 1).toNat it0 = _
    have hlt : (n - c - 1).toNat < 8 := by omega
    rw [List.getD_eq_getElem?_getD, List.getElem?_map, List.getElem?_range hlt]
    show J.item (c + 1 + (((n - c - 1).toNat : Nat) : Int)) = _
    rw [show c + 1 + (((n - c - 1).toNat : Nat) : Int) = n by omega]
    rfl
  apply List.ext_getElem?
  intro i
  by_cases hi : i < 8
  · rw [Jn.slots_get _ hi, Jn.slots_get _ hi, clr_c, clr_item J hw.len lo hi k]
    have hc : (shiftJ' J c).c = c := rfl
    rw [hc, hx _ (slotN_in c i).1 (slotN_in c i).2]
    have m1 := slotN_mod J.c i hi
    have m2 := slotN_mod c i hi
    obtain ⟨a1, a2⟩ := slotN_in J.c i
    obtain ⟨b1, b2⟩ := slotN_in c i
    by_cases hin : slotN c i ≤ J.c + 8
    · rw [if_neg, show slotN c i = slotN J.c i by omega]
      rintro ⟨j, j1, j2⟩
      split at hlo <;> omega
    · rw [if_pos]
      · unfold Jn.item
        rw [if_neg (fun q => hin q.2)]
      · refine ⟨(slotN c i - lo).toNat, ?_, ?_⟩ <;> split at hlo <;> omega
  · rw [List.getElem?_eq_none (by rw [Jn.slots_len]; omega), List.getElem?_eq_none (by rw [Jn.slots_len]; omega)]
theorem shift_nil13 (n : Int) (w : World) : Calls Tryd.prog 21 #[.pointer none, .int .i64 n] w fun x w' => x = .returned (.int .i64 2) ∧ Below w.heap.size w w' := by
  go_enter Tryd.func21, Tryd.ntmps21
  go_wp2_with fail
  go_ret
  exact ⟨rfl, Below.refl _ _⟩
set_option maxHeartbeats 4000000 in
theorem shift_low {w0 w : World} {jp p gs : Nat} {S : Sp} {J : Jn} {G : List Nat} (h : Jd w0 w jp p gs S J G) (_hw : JWf J) (c : Int) (hc : c < J.c) :
    Calls Tryd.prog 21 #[.pointer (some ⟨jp, 0, none⟩), .int .i64 c] w (JC w0 w jp p gs S J G (.int .i64 1)) := by
  have c1 := h.c1
  have HH := hid h
  clear h _hw
  go_enter Tryd.func21, Tryd.ntmps21
  go_wp2_with fail
  go_ret
  exact ⟨rfl, HH.out, Ek.refl _ _⟩
set_option maxHeartbeats 4000000 in
theorem shift_high {w0 w : World} {jp p gs : Nat} {S : Sp} {J : Jn} {G : List Nat} (h : Jd w0 w jp p gs S J G) (_hw : JWf J) (c : Int) (hc : J.c ≤ c) (hc2 : 72057594037927927 < c) :
    Calls Tryd.prog 21 #[.pointer (some ⟨jp, 0, none⟩), .int .i64 c] w (JC w0 w jp p gs S J G (.int .i64 1)) := by
  have c1 := h.c1
  have HH := hid h
  clear h _hw
  have hc3 : ¬ c < J.c := by omega
  go_enter Tryd.func21, Tryd.ntmps21
  go_wp2_with fail
  go_ret
  exact ⟨rfl, HH.out, Ek.refl _ _⟩
set_option maxHeartbeats 4000000 in
theorem shift_okj {w0 w : World} {jp p gs : Nat} {S : Sp} {J : Jn} {G : List Nat} (h : Jd w0 w jp p gs S J G) (hw : JWf J) (c : Int) (hc : J.c ≤ c) (hc2 : c ≤ 72057594037927927) :
    Calls Tryd.prog 21 #[.pointer (some ⟨jp, 0, none⟩), .int .i64 c] w (JC w0 w jp p gs S (shiftJ' J c) G (.int .i64 0)) := by
  have h0 := hw.c0
  have h1 := hw.c1
  have c1 := h.c1
  have hn1 : ¬ c < J.c := by omega
  have hn2 : ¬ 72057594037927927 < c := by omega
  have e8 : IntKind.i64.wrap (J.c + 8) = J.c + 8 := w64 (by omega) (by omega)
  have e9 : IntKind.i64.wrap (c + 8) = c + 8 := w64 (by omega) (by omega)
  obtain ⟨lo, hlo⟩ : ∃ lo, lo = (if J.c + 8 ≤ c then c else J.c + 8) + 1 := ⟨_, rfl⟩
  have hlb : c < lo ∧ lo ≤ c + 9 ∧ J.c + 8 < lo := by split at hlo <;> omega
  have hmx : IntKind.i64.wrap (max c (J.c + 8) + 1) = lo := by rw [w64 (by omega) (by omega)]; split at hlo <;> omega
  have hmx2 : max c (J.c + 8) + 1 = lo := by split at hlo <;> omega
  have HSS : Hid (∀ k : Nat, (lo + (k : Int) = c + 9 ∨ (k = 0 ∧ c + 9 ≤ lo)) → (clrJ J lo k).slots = (shiftJ' J c).slots) := hid fun k hk => shift_slots hw hc lo hlo hk
  have HL := hid (fun k => clr_len J hw.len lo k)
  have HC := hid (fun k => clr_c J lo k)
  have HB := hid hlb
  have HB2 := hid (show 0 ≤ J.c ∧ c ≤ 72057594037927927 ∧ J.c ≤ c from ⟨h0, hc2, hc⟩)
  have HW6 : Hid (wrap64 lo = lo) := hid (by have := w64 (x := lo) (by omega) (by omega); simpa [IntKind.wrap_i64, wrap64] using this)
  have HH := hid h
  clear h hw hc hc2 h0 h1 hlo hlb
  go_enter Tryd.func21, Tryd.ntmps21
  go_wp2_with fail
  go_loopw [5] (fun i wr => ∃ k : Nat, (k = 0 ∨ lo + (k : Int) ≤ c + 9) ∧ i = .int .i64 (lo + (k : Int)) ∧ Jd w0 wr jp p gs S (clrJ J lo k) G ∧ Ek w wr G) (fun i _ => (c + 9 - intOf i).toNat)
  case atStart => exact ⟨0, .inl rfl, by rw [HW6.out]; simp, HH.out, Ek.refl _ _⟩
  case round =>
    obtain ⟨k, hk, rfl, hj, hek⟩ := hrel
    have HJ := hid hj
    have HEK := hid hek
    obtain ⟨b1, b2, b3⟩ := HB.out
    obtain ⟨d1, d2, d3⟩ := HB2.out
    by_cases hlt : lo + (k : Int) ≤ c + 8
    · obtain ⟨s, hs, hso⟩ : ∃ s : Nat, s < 8 ∧ (lo + (k : Int)) % 8 = s := ⟨((lo + (k : Int)) % 8).toNat, by omega, by omega⟩
      have hb : (s : Int) < 8 := by omega
      have HSL : Hid (∀ W, Calls Tryd.prog 34 #[.int .i64 (lo + (k : Int))] W fun x w' => x = .returned (.int .i64 (s : Int)) ∧ W = w') := hid fun W => by
        have := slotOf_any (lo + (k : Int)) (by omega) W
        rw [hso] at this
        exact this
      have HS8 := hid hs
      have HL8 := hid (HL.out k)
      have HNX : Hid ((clrJ J lo k).set (slotN (clrJ J lo k).c s) it0 = clrJ J lo (k + 1)) := hid (by rw [clrJ, HC.out, show ((lo + (k : Int)) % 8).toNat = s by omega])
      have e1 : IntKind.i64.wrap (lo + (k : Int) + 1) = lo + (k : Int) + 1 := w64 (by omega) (by omega)
      clear hj hek HSS HL HC hs hk hmx hmx2
      go_wp2_with fail
      try simp only [Act.put, la1, la2, la3, la4, la5, la6]
      refine wp_region_held_drew (S := fun W => (∃ J, Jd w0 W jp p gs S J G) ∧ Ek wr W G) (by kernel_rfl) (⟨⟨_, HJ.out.drew⟩, fun _ _ => rfl⟩) (fun hH => ?_)
      refine tk_ (i := 0) (v := .pointer (some ⟨jp, 0, none⟩)) rfl (Or.inl ⟨by kernel_rfl, fun w' _ => by kernel_rfl⟩) hH ?_
      simp only [Act.put, la1, la3, la4, la5, la6]
      refine tk_ (i := 1) (v := .int .i64 (lo + (k : Int))) rfl (Or.inl ⟨by kernel_rfl, fun w' _ => by kernel_rfl⟩) hH ?_
      simp only [Act.put, la1, la2, la3, la4, la5, la6]
      refine tk_ (i := 3) (v := .agg it0.cells) rfl (Or.inl ⟨by kernel_rfl, fun w' _ => by kernel_rfl⟩) hH ?_
      simp only [Act.put, la1, la2, la3, la4, la5, la6]
      refine tk_ (i := 4) (v := .pointer (some ⟨jp, 0, none⟩)) rfl (Or.inl ⟨by rfl, fun w' hw' => by clear hw'; go_simp⟩) hH ?_
      simp only [Act.put, la1, la2, la3, la4, la5, la6]
      refine tk_ (i := 5) (v := .pointer (some ⟨jp, 2, none⟩)) rfl (Or.inl ⟨by rfl, fun w' hw' => by clear hw'; go_simp⟩) hH ?_
      simp only [Act.put, la1, la2, la3, la4, la5, la6]
      refine wpAnyH_ready (rs := [2]) (by kernel_rfl) (by simp) ?_
      refine AllReadyH.cons rfl (fun K hK => ?_) AllReadyH.nil
      go_simp
      go_at_call 34
      refine (HSL.out _).mono ?_
      rintro y w2 ⟨rfl, hw2⟩
      go_wp2_with fail
      have H2 : Hid (Jd w0 w2 jp p gs S (clrJ J lo k) G) := hid (hw2 ▸ HJ.out.drew)
      have K2 : Hid (Ek wr w2 G) := hid (hw2 ▸ fun _ _ => rfl)
      clear hw2
      refine hK.out _ _ (⟨⟨_, H2.out⟩, K2.out⟩) (fun hH => ?_)
      clear hK K
      try simp only [Act.put, la1, la2, la3, la4, la5, la6]
      refine tk_ (i := 6) (v := .pointer (some ⟨jp, 2 + s * 15, none⟩)) rfl (Or.inl ⟨by rfl, fun w' hw' => by clear hw'; go_simp⟩) hH ?_
      simp only [Act.put, la1, la2, la3, la4, la5, la6]
      refine wpAnyH_ready (rs := [7]) (by kernel_rfl) (by simp) ?_
      refine AllReadyH.cons rfl (fun K hK => ?_) AllReadyH.nil
      rw [if_pos (by kernel_rfl)]
      refine wp_store_mid 44 (.tmp 38) (.tmp 35) rfl jp (2 + s * 15) it0.cells rfl rfl (H2.out.there HS8.out _) itemSize13 (itC_one _) ?_
      refine hK.out _ _ (⟨⟨_, (H2.out.setIt HL8.out HS8.out _).1⟩, K2.out.trans (H2.out.setIt HL8.out HS8.out _).2⟩) (fun hH => ?_)
      clear hK K
      try simp only [Act.put, la1, la2, la3]
      refine wpAnyH_done (by kernel_rfl) ?_ _
      try simp only [Act.put, la1, la2, la3, la4, la5, la6]
      have H3 := hid (H2.out.setIt HL8.out HS8.out it0).1
      have E3 := hid (HEK.out.trans (K2.out.trans (H2.out.setIt HL8.out HS8.out it0).2))
      clear hH
      generalize World.setCells _ jp (2 + s * 15) _ = w3 at *
      rw [HNX.out] at H3
      go_wp2_with fail
      go_roundw
      case rel => exact ⟨k + 1, .inr (by push_cast; omega), by first | rfl | (congr 1; push_cast; omega) | go_num, H3.out, E3.out⟩
      case measure => simp [intOf]; omega
    · have H1 := hid (HSS.out k (by rcases hk with rfl | q <;> omega))
      have c01 : wr.cell? ⟨jp, 1, none⟩ = some (.int .i64 (clrJ J lo k).c) := hj.c1
      have f01 := hj.f 1
      clear HSS HL HC hj hek hmx hmx2 hk
      go_wp2_with fail
      go_ret
      have hg := gset13 wr jp 1 (.int .i64 c)
      have hrow : Row (wr.setCell ⟨jp, 1, none⟩ (.int .i64 c)) jp 69 (jC p (shiftJ' J c).c (shiftJ' J c).slots) := by
        rw [← H1.out]
        exact HJ.out.row.set_ 1 (.int .i64 c)
      obtain ⟨q1, q2⟩ := HJ.out.turn (J' := shiftJ' J c) hg hrow
      exact ⟨rfl, q1, HEK.out.trans q2⟩
theorem shift_any13 {w0 w : World} {jp p gs : Nat} {S : Sp} {J : Jn} {G : List Nat} (h : Jd w0 w jp p gs S J G) (hw : JWf J) (c : Int) :
    Calls Tryd.prog 21 #[.pointer (some ⟨jp, 0, none⟩), .int .i64 c] w (JC w0 w jp p gs S (shiftJ J c).1 G (.int .i64 (shiftJ J c).2)) := by
  by_cases hc : c < J.c
  · have e : shiftJ J c = (J, 1) := by unfold shiftJ; rw [if_pos (.inl hc)]
    rw [e]
    exact shift_low h hw c hc
  · by_cases hc2 : 72057594037927927 < c
    · have e : shiftJ J c = (J, 1) := by unfold shiftJ; rw [if_pos (.inr hc2)]
      rw [e]
      exact shift_high h hw c (by omega) hc2
    · have e : shiftJ J c = (shiftJ' J c, 0) := by unfold shiftJ; rw [if_neg (by omega)]; rfl
      rw [e]
      exact shift_okj h hw c (by omega) (by omega)
end Go.Proofs.YtafbeepacncooaaDoor
/-
  The walks of package journal's Read, Item, Head.
-/
namespace Go.Proofs.YtafbeepacncooaaDoor
open Go.RowKit
set_option maxRecDepth 10000

theorem read_nil13 (n : Int) (w : World) : Calls Tryd.prog 14 #[.pointer none, .int .i64 n] w fun x w' => x = .returned (.tuple #[.agg en0.cells, .int .i64 2]) ∧ Below w.heap.size w w' := by
  have HZE := hid esize
  have HOE : Hid (∀ t : En, t.cells.all (·.oneCell') = true) := hid ecells_one
  go_enter Tryd.func14, Tryd.ntmps14
  go_wp2_with (refine wpl_store_st rfl (.tmp 4) (.tmp 13) rfl (n := 9) HZE.out w.heap.size en0.cells en0.cells rfl rfl (Row.new _ _ _) ?_ (hid rfl) (hid rfl) (hid (HOE.out _)); intro w7 HR7 HB7)
  exact bodyPost_ret (v := .tuple #[.agg en0.cells, .int .i64 2]) (results_cell1 rfl _ _ w.heap.size 28 en0.cells (0, 0) _ (.int .i64 2) rfl rfl HR7.arr Tryd.underlying28 rfl HZE.out) rfl ⟨rfl, ((Below.refl w.heap.size w).alloc (Nat.le_refl _) _).trans (below_grown HB7 (Nat.le_refl _) (by simp))⟩
set_option maxHeartbeats 4000000 in
theorem rdj_argj {w0 w : World} {jp p gs : Nat} {S : Sp} {J : Jn} {G : List Nat} (h : Jd w0 w jp p gs S J G) (hw : JWf J) (n : Int) (hh : ¬ J.has n) (_hc : S.count ≤ 900000) :
    Calls Tryd.prog 14 #[.pointer (some ⟨jp, 0, none⟩), .int .i64 n] w (JC w0 w jp p gs S J G (.tuple #[.agg en0.cells, .int .i64 1])) := by
  have HZE := hid esize
  have HSE : Hid (∀ t : En, t.cells.size = 9) := hid fun t => rfl
  have HOE : Hid (∀ t : En, t.cells.all (·.oneCell') = true) := hid ecells_one
  have HA := hid (h.alloc (.cells en0.cells 28)).1
  have HK := hid (h.alloc (.cells en0.cells 28)).2
  have HRA : Hid (Row (w.alloc (.cells en0.cells 28)) w.heap.size 28 en0.cells.toList) := hid (Row.new _ _ _)
  have HSZ0 := hid h.size
  have HNG : Hid (w.heap.size ∉ G) := hid fun hn => Nat.lt_irrefl _ (h.lt _ hn)
  have HHA : Hid (Calls Tryd.prog 33 #[.pointer (some ⟨jp, 0, none⟩), .int .i64 n] (w.alloc (.cells en0.cells 28)) fun x w' => x = .returned (.bool false) ∧ w.alloc (.cells en0.cells 28) = w') := hid (by
    have := has_any13 HA.out hw.c0 hw.c1 n
    rw [decide_eq_false hh] at this
    exact this)
  clear h hw _hc hh
  go_enter Tryd.func14, Tryd.ntmps14
  go_wp2_with (first
    | (go_at_call 33; refine HHA.out.mono ?_; rintro x w3 ⟨rfl, hw3⟩; subst hw3)
    | ((with_reducible show wpList _ _ _ ({ dst := none, op := .store _ (.tmp 4) (.tmp 18), type := _, pos := _, after := _, guard := _ } :: _) _ _); refine wpl_store_st rfl (.tmp 4) (.tmp 18) rfl (n := 9) HZE.out w.heap.size en0.cells en0.cells rfl rfl HRA.out ?_ (hid rfl) (hid (HSE.out _)) (hid (HOE.out _)); intro w9 hr9 hg9; have H9 := hid (HA.out.put (g := w.heap.size) (by simp) HSZ0.out hg9); have E9 := hid (HK.out.trans (ek_put hg9 (fun g hg => HA.out.lt g (by simp [hg])) HNG.out)); have R9 := hid hr9; clear hr9 hg9))
  exact bodyPost_ret (v := .tuple #[.agg en0.cells, .int .i64 1]) (results_cell1 rfl _ _ w.heap.size 28 en0.cells (0, 0) _ (.int .i64 1) rfl rfl R9.out.arr Tryd.underlying28 rfl (by rw [HSE.out]; exact HZE.out)) rfl ⟨rfl, H9.out.tail, E9.out⟩
set_option maxHeartbeats 4000000 in
theorem rdj_lac {w0 w : World} {jp p gs : Nat} {S : Sp} {J : Jn} {G : List Nat} (h : Jd w0 w jp p gs S J G) (hw : JWf J) (n : Int) (hh : J.has n) (hk : (J.item n).kind = 0) (_hc : S.count ≤ 900000) :
    Calls Tryd.prog 14 #[.pointer (some ⟨jp, 0, none⟩), .int .i64 n] w (JC w0 w jp p gs S J G (.tuple #[.agg en0.cells, .int .i64 8])) := by
  have HZE := hid esize
  have HSE : Hid (∀ t : En, t.cells.size = 9) := hid fun t => rfl
  have HOE : Hid (∀ t : En, t.cells.all (·.oneCell') = true) := hid ecells_one
  have HA := hid (h.alloc (.cells en0.cells 28)).1
  have HK := hid (h.alloc (.cells en0.cells 28)).2
  have HRA : Hid (Row (w.alloc (.cells en0.cells 28)) w.heap.size 28 en0.cells.toList) := hid (Row.new _ _ _)
  have HSZ0 := hid h.size
  have HNG : Hid (w.heap.size ∉ G) := hid fun hn => Nat.lt_irrefl _ (h.lt _ hn)
  have HHA : Hid (Calls Tryd.prog 33 #[.pointer (some ⟨jp, 0, none⟩), .int .i64 n] (w.alloc (.cells en0.cells 28)) fun x w' => x = .returned (.bool true) ∧ w.alloc (.cells en0.cells 28) = w') := hid (by
    have := has_any13 HA.out hw.c0 hw.c1 n
    rw [decide_eq_true hh] at this
    exact this)
  obtain ⟨s, hs, hso⟩ : ∃ s : Nat, s < 8 ∧ n % 8 = s := ⟨(n % 8).toNat, by omega, by omega⟩
  have h0 := hw.c0
  have hslot : slotN J.c s = n := by
    have := slotN_of hh
    rw [show (n % 8).toNat = s by omega] at this
    exact this
  have HSL : Hid (Calls Tryd.prog 34 #[.int .i64 n] (w.alloc (.cells en0.cells 28)) fun x w' => x = .returned (.int .i64 (s : Int)) ∧ w.alloc (.cells en0.cells 28) = w') := hid (by
    have := slotOf_any n (by have := hh.1; omega) (w.alloc (.cells en0.cells 28))
    rw [hso] at this
    exact this)
  have hb : (s : Int) < 8 := by omega
  have ck : (w.alloc (.cells en0.cells 28)).cell? ⟨jp, 2 + s * 15, none⟩ = some (.int .i64 (J.item n).kind) := by
    have := HA.out.kind hs
    rw [hslot] at this
    exact this
  have e4 : IntKind.i64.wrap (4 + (s : Int)) = ((4 + s : Nat) : Int) := by rw [w64 (by omega) (by omega)]; omega
  have hpn : pN n = 4 + s := by unfold pN; omega
  have c0 := HA.out.c0
  rw [hk] at ck
  clear h hw _hc hh hk hso hslot h0 hs e4 hpn c0
  go_enter Tryd.func14, Tryd.ntmps14
  go_wp2_with (first
    | (go_at_call 33; refine HHA.out.mono ?_; rintro x w3 ⟨rfl, hw3⟩; subst hw3)
    | (go_at_call 34; refine HSL.out.mono ?_; rintro x w4 ⟨rfl, hw4⟩; subst hw4)
    | ((with_reducible show wpList _ _ _ ({ dst := none, op := .store _ (.tmp 4) (.tmp 30), type := _, pos := _, after := _, guard := _ } :: _) _ _); refine wpl_store_st rfl (.tmp 4) (.tmp 30) rfl (n := 9) HZE.out w.heap.size en0.cells en0.cells rfl rfl HRA.out ?_ (hid rfl) (hid (HSE.out _)) (hid (HOE.out _)); intro w9 hr9 hg9; have H9 := hid (HA.out.put (g := w.heap.size) (by simp) HSZ0.out hg9); have E9 := hid (HK.out.trans (ek_put hg9 (fun g hg => HA.out.lt g (by simp [hg])) HNG.out)); have R9 := hid hr9; clear hr9 hg9))
  exact bodyPost_ret (v := .tuple #[.agg en0.cells, .int .i64 8]) (results_cell1 rfl _ _ w.heap.size 28 en0.cells (0, 0) _ (.int .i64 8) rfl rfl R9.out.arr Tryd.underlying28 rfl (by rw [HSE.out]; exact HZE.out)) rfl ⟨rfl, H9.out.tail, E9.out⟩
set_option maxHeartbeats 4000000 in
theorem rdj_fau {w0 w : World} {jp p gs : Nat} {S : Sp} {J : Jn} {G : List Nat} (h : Jd w0 w jp p gs S J G) (hw : JWf J) (n : Int) (hh : J.has n) (hk : (J.item n).kind = 2) (_hc : S.count ≤ 900000) :
    Calls Tryd.prog 14 #[.pointer (some ⟨jp, 0, none⟩), .int .i64 n] w (JC w0 w jp p gs S J G (.tuple #[.agg en0.cells, .int .i64 11])) := by
  have HZE := hid esize
  have HSE : Hid (∀ t : En, t.cells.size = 9) := hid fun t => rfl
  have HOE : Hid (∀ t : En, t.cells.all (·.oneCell') = true) := hid ecells_one
  have HA := hid (h.alloc (.cells en0.cells 28)).1
  have HK := hid (h.alloc (.cells en0.cells 28)).2
  have HRA : Hid (Row (w.alloc (.cells en0.cells 28)) w.heap.size 28 en0.cells.toList) := hid (Row.new _ _ _)
  have HSZ0 := hid h.size
  have HNG : Hid (w.heap.size ∉ G) := hid fun hn => Nat.lt_irrefl _ (h.lt _ hn)
  have HHA : Hid (Calls Tryd.prog 33 #[.pointer (some ⟨jp, 0, none⟩), .int .i64 n] (w.alloc (.cells en0.cells 28)) fun x w' => x = .returned (.bool true) ∧ w.alloc (.cells en0.cells 28) = w') := hid (by
    have := has_any13 HA.out hw.c0 hw.c1 n
    rw [decide_eq_true hh] at this
    exact this)
  obtain ⟨s, hs, hso⟩ : ∃ s : Nat, s < 8 ∧ n % 8 = s := ⟨(n % 8).toNat, by omega, by omega⟩
  have h0 := hw.c0
  have hslot : slotN J.c s = n := by
    have := slotN_of hh
    rw [show (n % 8).toNat = s by omega] at this
    exact this
  have HSL : Hid (Calls Tryd.prog 34 #[.int .i64 n] (w.alloc (.cells en0.cells 28)) fun x w' => x = .returned (.int .i64 (s : Int)) ∧ w.alloc (.cells en0.cells 28) = w') := hid (by
    have := slotOf_any n (by have := hh.1; omega) (w.alloc (.cells en0.cells 28))
    rw [hso] at this
    exact this)
  have hb : (s : Int) < 8 := by omega
  have ck : (w.alloc (.cells en0.cells 28)).cell? ⟨jp, 2 + s * 15, none⟩ = some (.int .i64 (J.item n).kind) := by
    have := HA.out.kind hs
    rw [hslot] at this
    exact this
  have e4 : IntKind.i64.wrap (4 + (s : Int)) = ((4 + s : Nat) : Int) := by rw [w64 (by omega) (by omega)]; omega
  have hpn : pN n = 4 + s := by unfold pN; omega
  have c0 := HA.out.c0
  rw [hk] at ck
  clear h hw _hc hh hk hso hslot h0 hs e4 hpn c0
  go_enter Tryd.func14, Tryd.ntmps14
  go_wp2_with (first
    | (go_at_call 33; refine HHA.out.mono ?_; rintro x w3 ⟨rfl, hw3⟩; subst hw3)
    | (go_at_call 34; refine HSL.out.mono ?_; rintro x w4 ⟨rfl, hw4⟩; subst hw4)
    | ((with_reducible show wpList _ _ _ ({ dst := none, op := .store _ (.tmp 4) (.tmp 34), type := _, pos := _, after := _, guard := _ } :: _) _ _); refine wpl_store_st rfl (.tmp 4) (.tmp 34) rfl (n := 9) HZE.out w.heap.size en0.cells en0.cells rfl rfl HRA.out ?_ (hid rfl) (hid (HSE.out _)) (hid (HOE.out _)); intro w9 hr9 hg9; have H9 := hid (HA.out.put (g := w.heap.size) (by simp) HSZ0.out hg9); have E9 := hid (HK.out.trans (ek_put hg9 (fun g hg => HA.out.lt g (by simp [hg])) HNG.out)); have R9 := hid hr9; clear hr9 hg9))
  exact bodyPost_ret (v := .tuple #[.agg en0.cells, .int .i64 11]) (results_cell1 rfl _ _ w.heap.size 28 en0.cells (0, 0) _ (.int .i64 11) rfl rfl R9.out.arr Tryd.underlying28 rfl (by rw [HSE.out]; exact HZE.out)) rfl ⟨rfl, H9.out.tail, E9.out⟩
set_option maxHeartbeats 4000000 in
theorem rdj_uns {w0 w : World} {jp p gs : Nat} {S : Sp} {J : Jn} {G : List Nat} (h : Jd w0 w jp p gs S J G) (hw : JWf J) (n : Int) (hh : J.has n) (hk : (J.item n).kind = 3) (_hc : S.count ≤ 900000) :
    Calls Tryd.prog 14 #[.pointer (some ⟨jp, 0, none⟩), .int .i64 n] w (JC w0 w jp p gs S J G (.tuple #[.agg en0.cells, .int .i64 11])) := by
  have HZE := hid esize
  have HSE : Hid (∀ t : En, t.cells.size = 9) := hid fun t => rfl
  have HOE : Hid (∀ t : En, t.cells.all (·.oneCell') = true) := hid ecells_one
  have HA := hid (h.alloc (.cells en0.cells 28)).1
  have HK := hid (h.alloc (.cells en0.cells 28)).2
  have HRA : Hid (Row (w.alloc (.cells en0.cells 28)) w.heap.size 28 en0.cells.toList) := hid (Row.new _ _ _)
  have HSZ0 := hid h.size
  have HNG : Hid (w.heap.size ∉ G) := hid fun hn => Nat.lt_irrefl _ (h.lt _ hn)
  have HHA : Hid (Calls Tryd.prog 33 #[.pointer (some ⟨jp, 0, none⟩), .int .i64 n] (w.alloc (.cells en0.cells 28)) fun x w' => x = .returned (.bool true) ∧ w.alloc (.cells en0.cells 28) = w') := hid (by
    have := has_any13 HA.out hw.c0 hw.c1 n
    rw [decide_eq_true hh] at this
    exact this)
  obtain ⟨s, hs, hso⟩ : ∃ s : Nat, s < 8 ∧ n % 8 = s := ⟨(n % 8).toNat, by omega, by omega⟩
  have h0 := hw.c0
  have hslot : slotN J.c s = n := by
    have := slotN_of hh
    rw [show (n % 8).toNat = s by omega] at this
    exact this
  have HSL : Hid (Calls Tryd.prog 34 #[.int .i64 n] (w.alloc (.cells en0.cells 28)) fun x w' => x = .returned (.int .i64 (s : Int)) ∧ w.alloc (.cells en0.cells 28) = w') := hid (by
    have := slotOf_any n (by have := hh.1; omega) (w.alloc (.cells en0.cells 28))
    rw [hso] at this
    exact this)
  have hb : (s : Int) < 8 := by omega
  have ck : (w.alloc (.cells en0.cells 28)).cell? ⟨jp, 2 + s * 15, none⟩ = some (.int .i64 (J.item n).kind) := by
    have := HA.out.kind hs
    rw [hslot] at this
    exact this
  have e4 : IntKind.i64.wrap (4 + (s : Int)) = ((4 + s : Nat) : Int) := by rw [w64 (by omega) (by omega)]; omega
  have hpn : pN n = 4 + s := by unfold pN; omega
  have c0 := HA.out.c0
  rw [hk] at ck
  clear h hw _hc hh hk hso hslot h0 hs e4 hpn c0
  go_enter Tryd.func14, Tryd.ntmps14
  go_wp2_with (first
    | (go_at_call 33; refine HHA.out.mono ?_; rintro x w3 ⟨rfl, hw3⟩; subst hw3)
    | (go_at_call 34; refine HSL.out.mono ?_; rintro x w4 ⟨rfl, hw4⟩; subst hw4)
    | ((with_reducible show wpList _ _ _ ({ dst := none, op := .store _ (.tmp 4) (.tmp 34), type := _, pos := _, after := _, guard := _ } :: _) _ _); refine wpl_store_st rfl (.tmp 4) (.tmp 34) rfl (n := 9) HZE.out w.heap.size en0.cells en0.cells rfl rfl HRA.out ?_ (hid rfl) (hid (HSE.out _)) (hid (HOE.out _)); intro w9 hr9 hg9; have H9 := hid (HA.out.put (g := w.heap.size) (by simp) HSZ0.out hg9); have E9 := hid (HK.out.trans (ek_put hg9 (fun g hg => HA.out.lt g (by simp [hg])) HNG.out)); have R9 := hid hr9; clear hr9 hg9))
  exact bodyPost_ret (v := .tuple #[.agg en0.cells, .int .i64 11]) (results_cell1 rfl _ _ w.heap.size 28 en0.cells (0, 0) _ (.int .i64 11) rfl rfl R9.out.arr Tryd.underlying28 rfl (by rw [HSE.out]; exact HZE.out)) rfl ⟨rfl, H9.out.tail, E9.out⟩
set_option maxHeartbeats 4000000 in
theorem rdj_err {w0 w : World} {jp p gs : Nat} {S : Sp} {J : Jn} {G : List Nat} (h : Jd w0 w jp p gs S J G) (hw : JWf J) (n : Int) (hh : J.has n) (hk : (J.item n).kind = 1) (hz : (S.read (pN n)).2 ≠ 0) (hc : S.count ≤ 900000) :
    Calls Tryd.prog 14 #[.pointer (some ⟨jp, 0, none⟩), .int .i64 n] w (JC w0 w jp p gs S J G (.tuple #[.agg en0.cells, .int .i64 (S.read (pN n)).2])) := by
  have HZE := hid esize
  have HSE : Hid (∀ t : En, t.cells.size = 9) := hid fun t => rfl
  have HOE : Hid (∀ t : En, t.cells.all (·.oneCell') = true) := hid ecells_one
  have HA := hid (h.alloc (.cells en0.cells 28)).1
  have HK := hid (h.alloc (.cells en0.cells 28)).2
  have HRA : Hid (Row (w.alloc (.cells en0.cells 28)) w.heap.size 28 en0.cells.toList) := hid (Row.new _ _ _)
  have HSZ0 := hid h.size
  have HNG : Hid (w.heap.size ∉ G) := hid fun hn => Nat.lt_irrefl _ (h.lt _ hn)
  have HHA : Hid (Calls Tryd.prog 33 #[.pointer (some ⟨jp, 0, none⟩), .int .i64 n] (w.alloc (.cells en0.cells 28)) fun x w' => x = .returned (.bool true) ∧ w.alloc (.cells en0.cells 28) = w') := hid (by
    have := has_any13 HA.out hw.c0 hw.c1 n
    rw [decide_eq_true hh] at this
    exact this)
  obtain ⟨s, hs, hso⟩ : ∃ s : Nat, s < 8 ∧ n % 8 = s := ⟨(n % 8).toNat, by omega, by omega⟩
  have h0 := hw.c0
  have hslot : slotN J.c s = n := by
    have := slotN_of hh
    rw [show (n % 8).toNat = s by omega] at this
    exact this
  have HSL : Hid (Calls Tryd.prog 34 #[.int .i64 n] (w.alloc (.cells en0.cells 28)) fun x w' => x = .returned (.int .i64 (s : Int)) ∧ w.alloc (.cells en0.cells 28) = w') := hid (by
    have := slotOf_any n (by have := hh.1; omega) (w.alloc (.cells en0.cells 28))
    rw [hso] at this
    exact this)
  have hb : (s : Int) < 8 := by omega
  have ck : (w.alloc (.cells en0.cells 28)).cell? ⟨jp, 2 + s * 15, none⟩ = some (.int .i64 (J.item n).kind) := by
    have := HA.out.kind hs
    rw [hslot] at this
    exact this
  have e4 : IntKind.i64.wrap (4 + (s : Int)) = ((4 + s : Nat) : Int) := by rw [w64 (by omega) (by omega)]; omega
  have hpn : pN n = 4 + s := by unfold pN; omega
  have c0 := HA.out.c0
  rw [hk] at ck
  have HRD : Hid (Calls Tryd.prog 26 #[.pointer (some ⟨p, 0, none⟩), .int .i64 ((4 + s : Nat) : Int)] (w.alloc (.cells en0.cells 28)) (JC w0 (w.alloc (.cells en0.cells 28)) jp p gs S J (w.heap.size :: G) (.tuple #[.string ⟨(S.read (pN n)).1.toArray⟩, .int .i64 (S.read (pN n)).2]))) := hid (HA.out.callD fun hD => dd_read hD (by omega) _ (by rw [hpn]))
  generalize S.read (pN n) = R at *
  obtain ⟨l, z⟩ := R
  simp only at *
  generalize ((4 + s : Nat) : Int) = a at *
  have hz0 : (z != 0) = true := by simpa using hz
  clear h hw hc hh hk hso hslot h0 hs hpn hz
  go_enter Tryd.func14, Tryd.ntmps14
  go_wp2_with (first
    | (go_at_call 33; refine HHA.out.mono ?_; rintro x w3 ⟨rfl, hw3⟩; subst hw3)
    | (go_at_call 34; refine HSL.out.mono ?_; rintro x w4 ⟨rfl, hw4⟩; subst hw4)
    | (go_at_call 26; refine HRD.out.mono ?_; rintro y w5 ⟨rfl, h5, k5⟩; have H5 := hid h5; have R5 := hid (k5.row HRA.out (by simp)); have E5 := hid (HK.out.trans k5.tail); clear h5 k5)
    | ((with_reducible show wpList _ _ _ ({ dst := none, op := .store _ (.tmp 4) (.tmp 47), type := _, pos := _, after := _, guard := _ } :: _) _ _); refine wpl_store_st rfl (.tmp 4) (.tmp 47) rfl (n := 9) HZE.out w.heap.size en0.cells en0.cells rfl rfl R5.out ?_ (hid rfl) (hid (HSE.out _)) (hid (HOE.out _)); intro w9 hr9 hg9; have H9 := hid (H5.out.put (g := w.heap.size) (by simp) HSZ0.out hg9); have E9 := hid (E5.out.trans (ek_put hg9 (fun g hg => H5.out.lt g (by simp [hg])) HNG.out)); have R9 := hid hr9; clear hr9 hg9))
  exact bodyPost_ret (v := .tuple #[.agg en0.cells, .int .i64 z]) (results_cell1 rfl _ _ w.heap.size 28 en0.cells (0, 0) _ (.int .i64 z) rfl rfl R9.out.arr Tryd.underlying28 rfl (by rw [HSE.out]; exact HZE.out)) rfl ⟨rfl, H9.out.tail, E9.out⟩
set_option maxHeartbeats 4000000 in
theorem rdj_yes {w0 w : World} {jp p gs : Nat} {S : Sp} {J : Jn} {G : List Nat} (h : Jd w0 w jp p gs S J G) (hw : JWf J) (n : Int) (hh : J.has n) (hk : (J.item n).kind = 1) (hz : (S.read (pN n)).2 = 0) (hy : stubS (entryS (S.read (pN n)).1).1 = (J.item n).stub) (hc : S.count ≤ 900000) :
    Calls Tryd.prog 14 #[.pointer (some ⟨jp, 0, none⟩), .int .i64 n] w (JC w0 w jp p gs S J G (.tuple #[.agg (entryS (S.read (pN n)).1).1.cells, .int .i64 0])) := by
  have HZE := hid esize
  have HSE : Hid (∀ t : En, t.cells.size = 9) := hid fun t => rfl
  have HOE : Hid (∀ t : En, t.cells.all (·.oneCell') = true) := hid ecells_one
  have HA := hid (h.alloc (.cells en0.cells 28)).1
  have HK := hid (h.alloc (.cells en0.cells 28)).2
  have HRA : Hid (Row (w.alloc (.cells en0.cells 28)) w.heap.size 28 en0.cells.toList) := hid (Row.new _ _ _)
  have HSZ0 := hid h.size
  have HNG : Hid (w.heap.size ∉ G) := hid fun hn => Nat.lt_irrefl _ (h.lt _ hn)
  have HHA : Hid (Calls Tryd.prog 33 #[.pointer (some ⟨jp, 0, none⟩), .int .i64 n] (w.alloc (.cells en0.cells 28)) fun x w' => x = .returned (.bool true) ∧ w.alloc (.cells en0.cells 28) = w') := hid (by
    have := has_any13 HA.out hw.c0 hw.c1 n
    rw [decide_eq_true hh] at this
    exact this)
  obtain ⟨s, hs, hso⟩ : ∃ s : Nat, s < 8 ∧ n % 8 = s := ⟨(n % 8).toNat, by omega, by omega⟩
  have h0 := hw.c0
  have hslot : slotN J.c s = n := by
    have := slotN_of hh
    rw [show (n % 8).toNat = s by omega] at this
    exact this
  have HSL : Hid (Calls Tryd.prog 34 #[.int .i64 n] (w.alloc (.cells en0.cells 28)) fun x w' => x = .returned (.int .i64 (s : Int)) ∧ w.alloc (.cells en0.cells 28) = w') := hid (by
    have := slotOf_any n (by have := hh.1; omega) (w.alloc (.cells en0.cells 28))
    rw [hso] at this
    exact this)
  have hb : (s : Int) < 8 := by omega
  have ck : (w.alloc (.cells en0.cells 28)).cell? ⟨jp, 2 + s * 15, none⟩ = some (.int .i64 (J.item n).kind) := by
    have := HA.out.kind hs
    rw [hslot] at this
    exact this
  have e4 : IntKind.i64.wrap (4 + (s : Int)) = ((4 + s : Nat) : Int) := by rw [w64 (by omega) (by omega)]; omega
  have hpn : pN n = 4 + s := by unfold pN; omega
  have c0 := HA.out.c0
  rw [hk] at ck
  have HRD : Hid (Calls Tryd.prog 26 #[.pointer (some ⟨p, 0, none⟩), .int .i64 ((4 + s : Nat) : Int)] (w.alloc (.cells en0.cells 28)) (JC w0 (w.alloc (.cells en0.cells 28)) jp p gs S J (w.heap.size :: G) (.tuple #[.string ⟨(S.read (pN n)).1.toArray⟩, .int .i64 (S.read (pN n)).2]))) := hid (HA.out.callD fun hD => dd_read hD (by omega) _ (by rw [hpn]))
  have HFD : Hid (∀ W, Jd w0 W jp p gs S J (w.heap.size :: G) → Calls Tryd.prog 37 #[.pointer (some ⟨jp, 0, none⟩), .int .i64 (s : Int), .string ⟨(S.read (pN n)).1.toArray⟩] W (JC w0 W jp p gs S J (w.heap.size :: G) (.tuple #[.agg (entryS (S.read (pN n)).1).1.cells, .bool true]))) := hid fun W hW => by
    have := find_yes hW s hs ⟨(S.read (pN n)).1.toArray⟩ (by rw [sb_mk, hslot]; exact hy)
    rw [sb_mk] at this
    exact this
  rw [hz] at HRD
  generalize (S.read (pN n)).1 = l at *
  generalize (entryS l).1 = ex at *
  generalize ((4 + s : Nat) : Int) = a at *
  clear h hw hc hh hk hso hslot h0 hs hpn hz hy
  go_enter Tryd.func14, Tryd.ntmps14
  go_wp2_with (first
    | (go_at_call 33; refine HHA.out.mono ?_; rintro x w3 ⟨rfl, hw3⟩; subst hw3)
    | (go_at_call 34; refine HSL.out.mono ?_; rintro x w4 ⟨rfl, hw4⟩; subst hw4)
    | (go_at_call 26; refine HRD.out.mono ?_; rintro y w5 ⟨rfl, h5, k5⟩; have H5 := hid h5; have R5 := hid (k5.row HRA.out (by simp)); have E5 := hid (HK.out.trans k5.tail); clear h5 k5)
    | (go_at_call 37; refine (HFD.out _ H5.out).mono ?_; rintro y w6 ⟨rfl, h6, k6⟩; have H6 := hid h6; have R6 := hid (k6.row R5.out (by simp)); have E6 := hid (E5.out.trans k6.tail); clear h6 k6)
    | ((with_reducible show wpList _ _ _ ({ dst := none, op := .store _ (.tmp 9) _, type := _, pos := _, after := _, guard := _ } :: _) _ _); refine wpl_store_st rfl (.tmp 9) (.tmp 54) rfl (n := 9) HZE.out w6.heap.size en0.cells ex.cells rfl rfl (Row.new _ _ _) ?_ (hid rfl) (hid (HSE.out _)) (hid (HOE.out _)); intro w7 hr7 hg7; obtain ⟨q1, q2⟩ := H6.out.one hg7; have H7 := hid q1; have R7 := hid (q2.row R6.out (by simp)); have E7 := hid (E6.out.trans q2.tail); have X7 := hid hr7; clear q1 q2 hr7 hg7)
    | (refine wpList_load_row rfl 28 (.tmp 9) rfl w6.heap.size rfl 28 ex.cells (0, 0) _ X7.out.arr Tryd.underlying28 rfl (by rw [HSE.out]; exact HZE.out) ?_)
    | ((with_reducible show wpList _ _ _ ({ dst := none, op := .store _ (.tmp 4) (.tmp 59), type := _, pos := _, after := _, guard := _ } :: _) _ _); refine wpl_store_st rfl (.tmp 4) (.tmp 59) rfl (n := 9) HZE.out w.heap.size en0.cells ex.cells rfl rfl R7.out ?_ (hid rfl) (hid (HSE.out _)) (hid (HOE.out _)); intro w9 hr9 hg9; have H9 := hid (H7.out.put (g := w.heap.size) (by simp) HSZ0.out hg9); have E9 := hid (E7.out.trans (ek_put hg9 (fun g hg => H7.out.lt g (by simp [hg])) HNG.out)); have R9 := hid hr9; clear hr9 hg9))
  exact bodyPost_ret (v := .tuple #[.agg ex.cells, .int .i64 0]) (results_cell1 rfl _ _ w.heap.size 28 ex.cells (0, 0) _ (.int .i64 0) rfl rfl R9.out.arr Tryd.underlying28 rfl (by rw [HSE.out]; exact HZE.out)) rfl ⟨rfl, H9.out.tail.tail, E9.out⟩
set_option maxHeartbeats 4000000 in
theorem rdj_no {w0 w : World} {jp p gs : Nat} {S : Sp} {J : Jn} {G : List Nat} (h : Jd w0 w jp p gs S J G) (hw : JWf J) (n : Int) (hh : J.has n) (hk : (J.item n).kind = 1) (hz : (S.read (pN n)).2 = 0) (hy : stubS (entryS (S.read (pN n)).1).1 ≠ (J.item n).stub) (hc : S.count ≤ 900000) :
    Calls Tryd.prog 14 #[.pointer (some ⟨jp, 0, none⟩), .int .i64 n] w (JC w0 w jp p gs S (J.set n ⟨2, (J.item n).stub, en0⟩) G (.tuple #[.agg en0.cells, .int .i64 11])) := by
  have HZE := hid esize
  have HSE : Hid (∀ t : En, t.cells.size = 9) := hid fun t => rfl
  have HOE : Hid (∀ t : En, t.cells.all (·.oneCell') = true) := hid ecells_one
  have HA := hid (h.alloc (.cells en0.cells 28)).1
  have HK := hid (h.alloc (.cells en0.cells 28)).2
  have HRA : Hid (Row (w.alloc (.cells en0.cells 28)) w.heap.size 28 en0.cells.toList) := hid (Row.new _ _ _)
  have HSZ0 := hid h.size
  have HNG : Hid (w.heap.size ∉ G) := hid fun hn => Nat.lt_irrefl _ (h.lt _ hn)
  have HHA : Hid (Calls Tryd.prog 33 #[.pointer (some ⟨jp, 0, none⟩), .int .i64 n] (w.alloc (.cells en0.cells 28)) fun x w' => x = .returned (.bool true) ∧ w.alloc (.cells en0.cells 28) = w') := hid (by
    have := has_any13 HA.out hw.c0 hw.c1 n
    rw [decide_eq_true hh] at this
    exact this)
  obtain ⟨s, hs, hso⟩ : ∃ s : Nat, s < 8 ∧ n % 8 = s := ⟨(n % 8).toNat, by omega, by omega⟩
  have h0 := hw.c0
  have hslot : slotN J.c s = n := by
    have := slotN_of hh
    rw [show (n % 8).toNat = s by omega] at this
    exact this
  have HSL : Hid (Calls Tryd.prog 34 #[.int .i64 n] (w.alloc (.cells en0.cells 28)) fun x w' => x = .returned (.int .i64 (s : Int)) ∧ w.alloc (.cells en0.cells 28) = w') := hid (by
    have := slotOf_any n (by have := hh.1; omega) (w.alloc (.cells en0.cells 28))
    rw [hso] at this
    exact this)
  have hb : (s : Int) < 8 := by omega
  have ck : (w.alloc (.cells en0.cells 28)).cell? ⟨jp, 2 + s * 15, none⟩ = some (.int .i64 (J.item n).kind) := by
    have := HA.out.kind hs
    rw [hslot] at this
    exact this
  have e4 : IntKind.i64.wrap (4 + (s : Int)) = ((4 + s : Nat) : Int) := by rw [w64 (by omega) (by omega)]; omega
  have hpn : pN n = 4 + s := by unfold pN; omega
  have c0 := HA.out.c0
  rw [hk] at ck
  have HRD : Hid (Calls Tryd.prog 26 #[.pointer (some ⟨p, 0, none⟩), .int .i64 ((4 + s : Nat) : Int)] (w.alloc (.cells en0.cells 28)) (JC w0 (w.alloc (.cells en0.cells 28)) jp p gs S J (w.heap.size :: G) (.tuple #[.string ⟨(S.read (pN n)).1.toArray⟩, .int .i64 (S.read (pN n)).2]))) := hid (HA.out.callD fun hD => dd_read hD (by omega) _ (by rw [hpn]))
  have HFD : Hid (∀ W, Jd w0 W jp p gs S J (w.heap.size :: G) → Calls Tryd.prog 37 #[.pointer (some ⟨jp, 0, none⟩), .int .i64 (s : Int), .string ⟨(S.read (pN n)).1.toArray⟩] W (JC w0 W jp p gs S (J.set n ⟨2, (J.item n).stub, en0⟩) (w.heap.size :: G) (.tuple #[.agg en0.cells, .bool false]))) := hid fun W hW => by
    have := find_no hW hw.len s hs ⟨(S.read (pN n)).1.toArray⟩ (by rw [sb_mk, hslot]; exact hy)
    rw [hslot] at this
    exact this
  rw [hz] at HRD
  generalize (S.read (pN n)).1 = l at *
  generalize J.set n ⟨2, (J.item n).stub, en0⟩ = J2 at *
  obtain ⟨ex, hex⟩ : ∃ ex, ex = en0 := ⟨_, rfl⟩
  rw [← hex] at HFD
  generalize ((4 + s : Nat) : Int) = a at *
  clear hex
  clear h hw hc hh hk hso hslot h0 hs hpn hz hy
  go_enter Tryd.func14, Tryd.ntmps14
  go_wp2_with (first
    | (go_at_call 33; refine HHA.out.mono ?_; rintro x w3 ⟨rfl, hw3⟩; subst hw3)
    | (go_at_call 34; refine HSL.out.mono ?_; rintro x w4 ⟨rfl, hw4⟩; subst hw4)
    | (go_at_call 26; refine HRD.out.mono ?_; rintro y w5 ⟨rfl, h5, k5⟩; have H5 := hid h5; have R5 := hid (k5.row HRA.out (by simp)); have E5 := hid (HK.out.trans k5.tail); clear h5 k5)
    | (go_at_call 37; refine (HFD.out _ H5.out).mono ?_; rintro y w6 ⟨rfl, h6, k6⟩; have H6 := hid h6; have R6 := hid (k6.row R5.out (by simp)); have E6 := hid (E5.out.trans k6.tail); clear h6 k6)
    | ((with_reducible show wpList _ _ _ ({ dst := none, op := .store _ (.tmp 9) _, type := _, pos := _, after := _, guard := _ } :: _) _ _); refine wpl_store_st rfl (.tmp 9) (.tmp 54) rfl (n := 9) HZE.out w6.heap.size en0.cells ex.cells rfl rfl (Row.new _ _ _) ?_ (hid rfl) (hid (HSE.out _)) (hid (HOE.out _)); intro w7 hr7 hg7; obtain ⟨q1, q2⟩ := H6.out.one hg7; have H7 := hid q1; have R7 := hid (q2.row R6.out (by simp)); have E7 := hid (E6.out.trans q2.tail); have X7 := hid hr7; clear q1 q2 hr7 hg7)
    | ((with_reducible show wpList _ _ _ ({ dst := none, op := .store _ (.tmp 4) (.tmp 58), type := _, pos := _, after := _, guard := _ } :: _) _ _); refine wpl_store_st rfl (.tmp 4) (.tmp 58) rfl (n := 9) HZE.out w.heap.size en0.cells en0.cells rfl rfl R7.out ?_ (hid rfl) (hid (HSE.out _)) (hid (HOE.out _)); intro w9 hr9 hg9; have H9 := hid (H7.out.put (g := w.heap.size) (by simp) HSZ0.out hg9); have E9 := hid (E7.out.trans (ek_put hg9 (fun g hg => H7.out.lt g (by simp [hg])) HNG.out)); have R9 := hid hr9; clear hr9 hg9))
  exact bodyPost_ret (v := .tuple #[.agg en0.cells, .int .i64 11]) (results_cell1 rfl _ _ w.heap.size 28 en0.cells (0, 0) _ (.int .i64 11) rfl rfl R9.out.arr Tryd.underlying28 rfl (by rw [HSE.out]; exact HZE.out)) rfl ⟨rfl, H9.out.tail.tail, E9.out⟩
theorem read_any13 {w0 w : World} {jp p gs : Nat} {S : Sp} {J : Jn} {G : List Nat} (h : Jd w0 w jp p gs S J G) (hw : JWf J) (n : Int) (hc : S.count ≤ 900000) :
    Calls Tryd.prog 14 #[.pointer (some ⟨jp, 0, none⟩), .int .i64 n] w (JC w0 w jp p gs S (readJn S J n).1 G (.tuple #[.agg (readJn S J n).2.1.cells, .int .i64 (readJn S J n).2.2])) := by
  unfold readJn
  by_cases hh : J.has n
  · have hi := hw.it _ hh
    rw [if_neg (not_not_intro hh)]
    by_cases k0 : (J.item n).kind = 0
    · rw [if_pos k0]
      exact rdj_lac h hw n hh k0 hc
    · rw [if_neg k0]
      by_cases k1 : (J.item n).kind = 1
      · rw [if_neg (not_not_intro k1)]
        have hs := (wf_stub hi (.inl k1)).2
        by_cases hz : (S.read (pN n)).2 = 0
        · rw [if_neg (not_not_intro hz)]
          by_cases hy : stubS (entryS (S.read (pN n)).1).1 = (J.item n).stub
          · rw [if_neg (by rw [stubs_ne hs]; exact fun q => q hy)]
            exact rdj_yes h hw n hh k1 hz hy hc
          · rw [if_pos (.inr hy)]
            exact rdj_no h hw n hh k1 hz hy hc
        · rw [if_pos hz]
          exact rdj_err h hw n hh k1 hz hc
      · rw [if_pos k1]
        have hk : (J.item n).kind = 2 ∨ (J.item n).kind = 3 := by
          rcases hi with e | ⟨y, _, _, _, e⟩ | ⟨s, _, _, _, e⟩ | e <;> rw [e] at k0 k1 ⊢
          · exact absurd rfl k0
          · exact absurd rfl k1
          · exact .inl rfl
          · exact .inr rfl
        rcases hk with hk | hk
        · exact rdj_fau h hw n hh hk hc
        · exact rdj_uns h hw n hh hk hc
  · rw [if_pos hh]
    exact rdj_argj h hw n hh hc
end Go.Proofs.YtafbeepacncooaaDoor
