/-
  The walk of package entry's Unpack.
-/
import Derived.Test.YtknalgobndbngaaDoorEpk
import Derived.Test.YtknalgobndbngaaDoorUnp2
namespace Go.Proofs.YtknalgobndbngaaDoor
open Go.RowKit
set_option maxRecDepth 10000

/-- an entry and an error -/
def EE (w : World) (r : En × Int) (e : Ending) (w' : World) : Prop := e = .returned (.tuple #[r.1.val, .int .i64 r.2]) ∧ Below w.heap.size w w'
/-- what Unpack answers -/
def unpackE (s : List UInt8) : En × Int :=
  if (unpackS s).2.2 = 0 ∧ Rt (eof (unpackS s).1 ⟨(unpackS s).2.1.toArray⟩) ∧ hof (eof (unpackS s).1 ⟨(unpackS s).2.1.toArray⟩) = (unpackS s).1 then (eof (unpackS s).1 ⟨(unpackS s).2.1.toArray⟩, 0) else (en0, 4)
theorem egHd : Tryd.prog.eqGuardType Tryd.prog.depth 43 = false := by kernel_rfl
/-- x != y, headers, in a region that draws its order -/
theorem yields_neh {ops : Array Oper} {S : World → Prop} {o : Oper} {a : Act} (hw : Region.wanted o (yielded ops a.tmps) = true) (x y : Operand) (ty : TypeId) (ho : o.op = .binOp .neq 43 x y ty) (G K : Array Value)
    (hx : a.eval x = .agg G) (hy : a.eval y = .agg K) (b : Bool) (hEQ : ∀ W, (Op.equalIn 10000 43 (.agg G) (.agg K)).run Tryd.prog W = .ok b W) : YieldsIf Tryd.prog ops S o (.bool (!b)) a :=
  .inl ⟨hw, fun w _ => by
    have hEG := egHd
    have hE := hEQ w
    unfold execOp
    simp [ho, hx, hy, eqGuard, hEG, binOp, Op.equal, Op.maxDepth, hE, Result.andThen]⟩
theorem hsize : (Tryd.prog.info? 43).map (·.size) = some 12 := by kernel_rfl

set_option maxHeartbeats 1000000 in
theorem eup_none (s : ByteArray) (h : Hd) (b : ByteArray) (f : Int) (w : World) (hf : Fd w) (hne : (f != 0) = true)
    (HU : Hid (∀ W : World, Fd W → Calls Tryd.prog 25 #[.string s] W fun x W' => x = .returned (.tuple #[h.val, .string b, .int .i64 f]) ∧ Below W.heap.size W W')) :
    Calls Tryd.prog 13 #[.string s] w (EE w (en0, 4)) := by
  have HZ := hid esize
  have HF := hid hf
  have HZH := hid hsize
  have HB0 := hid ((Below.refl w.heap.size w).alloc (Nat.le_refl _) (.cells en0.cells 24))
  have HR0 : Hid (Row (w.alloc (.cells en0.cells 24)) w.heap.size 24 en0.cells.toList) := hid (Row.new _ _ _)
  clear hf
  go_enter Tryd.func13, Tryd.ntmps13
  go_wp2_with (first
    | (go_at_call 25; refine (HU.out _ (HF.out.below HB0.out HF.out.1)).mono ?_; rintro e w1 ⟨rfl, hb1⟩; have hlt0 := HR0.out.lt; have hr0 := HR0.out.below hb1 hlt0; have hbb := HB0.out.trans (hb1.mono HB0.out.size); clear hb1)
    | (refine wpl_store_head rfl (.tmp 4) (.tmp 11) rfl w1.heap.size h rfl rfl (Row.new _ _ _) ?_; intro w2 hr2 hg2; have hl1 := hr0.lt; have hr0x := (hr0.alloc _).grown hg2 (by intro e; have := Option.some.inj e; omega); have hbb2 := (hbb.alloc hbb.size _).trans (below_grown hg2 hbb.size (by have := hbb.size; simp; omega)); clear hr0 hbb; have hr0 := hr0x; have hbb := hbb2; clear hr0x hbb2 hg2)
    | (refine wpl_store_st rfl (.tmp 2) (.tmp 16) rfl HZ.out w.heap.size en0.cells en0.cells rfl rfl hr0 ?_ (hid rfl) (hid rfl) (hid (ecells_one en0)); intro wz hrz hgz; have HBZ := hid (hbb.trans (below_grown hgz (Nat.le_refl _) hbb.size)); clear hgz))
  refine bodyPost_ret (v := .tuple #[.agg en0.cells, .int .i64 4]) (results_cell1 rfl _ _ w.heap.size 24 en0.cells (0, 0) _ (.int .i64 4) rfl rfl (Row.arr hrz) Tryd.underlying24 rfl HZ.out) rfl ⟨rfl, HBZ.out⟩

set_option maxHeartbeats 2000000 in
theorem eup_no (s : ByteArray) (h : Hd) (b : ByteArray) (x : En) (w : World) (hf : Fd w)
    (HU : Hid (∀ W : World, Fd W → Calls Tryd.prog 25 #[.string s] W fun x W' => x = .returned (.tuple #[h.val, .string b, .int .i64 0]) ∧ Below W.heap.size W W'))
    (HEO : Hid (∀ W : World, Calls Tryd.prog 26 #[.agg h.cells, .string b] W (VE W (.agg x.cells))))
    (HR : Hid (∀ W : World, Calls Tryd.prog 11 #[.agg x.cells] W (VE W (.bool false)))) :
    Calls Tryd.prog 13 #[.string s] w (EE w (en0, 4)) := by
  have HZ := hid esize
  have HF := hid hf
  have HZH := hid hsize
  have HB0 := hid ((Below.refl w.heap.size w).alloc (Nat.le_refl _) (.cells en0.cells 24))
  have HR0 : Hid (Row (w.alloc (.cells en0.cells 24)) w.heap.size 24 en0.cells.toList) := hid (Row.new _ _ _)
  clear hf
  go_enter Tryd.func13, Tryd.ntmps13
  go_wp2_with (first
    | (go_at_call 25; refine (HU.out _ (HF.out.below HB0.out HF.out.1)).mono ?_; rintro e w1 ⟨rfl, hb1⟩; have hlt0 := HR0.out.lt; have hr0 := HR0.out.below hb1 hlt0; have hbb := HB0.out.trans (hb1.mono HB0.out.size); clear hb1)
    | (refine wpl_store_head rfl (.tmp 4) (.tmp 11) rfl w1.heap.size h rfl rfl (Row.new _ _ _) ?_; intro w2 hr2 hg2; have hl1 := hr0.lt; have hr0x := (hr0.alloc _).grown hg2 (by intro e; have := Option.some.inj e; omega); have hbb2 := (hbb.alloc hbb.size _).trans (below_grown hg2 hbb.size (by have := hbb.size; simp; omega)); clear hr0 hbb; have hr0 := hr0x; have hbb := hbb2; clear hr0x hbb2 hg2)
    | (refine wpList_load_row rfl 43 (.tmp 4) rfl w1.heap.size rfl 43 h.cells (0, 0) _ hr2.arr Tryd.underlying43 rfl HZH.out ?_)
    | (go_at_call 26; refine (HEO.out _).mono ?_; rintro e w3 ⟨rfl, hb3⟩; have hr0y := hr0.below hb3 hr0.lt; have hr2y := hr2.below hb3 hr2.lt; have hbb3 := hbb.trans (hb3.mono hbb.size); clear hr0 hr2 hbb hb3)
    | (refine wpl_store_st rfl (.tmp 7) (.tmp 19) rfl HZ.out w3.heap.size en0.cells x.cells rfl rfl (Row.new _ _ _) ?_ (hid rfl) (hid rfl) (hid (ecells_one x)); intro w4 hr4 hg4; have hr0 := (hr0y.alloc _).grown hg4 (by intro e; have := Option.some.inj e; have := hr0y.lt; omega); have hr2 := (hr2y.alloc _).grown hg4 (by intro e; have := Option.some.inj e; have := hr2y.lt; omega); have hbb := (hbb3.alloc hbb3.size _).trans (below_grown hg4 hbb3.size (by have := hbb3.size; simp; omega)); clear hr0y hr2y hbb3 hg4))
  simp only [Act.put]
  have HR4 := hid hr4
  have HR2 := hid hr2
  have HRZ := hid hr0
  have HBB := hid hbb
  clear hr4 hr2 hr0 hbb
  go_cut [28] (fun v wx => v = .bool true ∧ Below w4.heap.size w4 wx)
  case first =>
    refine wp_region_held_drew (S := fun W => Below w4.heap.size w4 W) (by kernel_rfl) ((Below.refl _ _).drew) (fun hH => ?_)
    refine wpAnyH_take (i := 0) (v := .agg x.cells) rfl (by kernel_rfl) (by kernel_rfl) (by kernel_rfl) (fun _ _ _ h => h) ?_ hH ?_
    · refine yieldsIf_load_mid ?_ 24 (.tmp 7) ?_ w3.heap.size 0 ?_ (Array.toList x.cells) _ (fun W hW => Row.range (HR4.out.below hW HR4.out.lt)) Tryd.underlying24 rfl HZ.out
      all_goals kernel_rfl
    simp only [Act.put]
    refine wpAnyH_ready (rs := [1]) (by kernel_rfl) (by simp) ?_
    refine AllReadyH.cons rfl (fun K hK => ?_) AllReadyH.nil
    go_simp
    go_at_call 11
    refine (HR.out _).mono ?_
    rintro e w5 ⟨rfl, hb5⟩
    go_wp2_with fail
    refine hK.out _ _ (hH.trans (Below.mono hb5 hH.size)) (fun hH => ?_)
    clear hK K
    try simp only [Act.put]
    refine wpAnyH_take (i := 2) (v := .bool true) rfl (by kernel_rfl) (by kernel_rfl) (by kernel_rfl) (fun _ _ _ h => h) (Or.inl ⟨by rfl, fun w' hw' => by clear hw'; go_simp⟩) hH ?_
    simp only [Act.put]
    refine wpAnyH_take (i := 3) (v := .bool true) rfl (by kernel_rfl) (by kernel_rfl) (by kernel_rfl) (fun _ _ _ h => h) (Or.inl ⟨by rfl, fun w' hw' => by clear hw'; go_simp⟩) hH ?_
    simp only [Act.put]
    refine wpAnyH_take (i := 4) (v := undef) rfl (by kernel_rfl) (by kernel_rfl) (by kernel_rfl) (fun _ _ _ h => h) (Or.inr ⟨by kernel_rfl, rfl⟩) hH ?_
    simp only [Act.put]
    refine wpAnyH_take (i := 5) (v := undef) rfl (by kernel_rfl) (by kernel_rfl) (by kernel_rfl) (fun _ _ _ h => h) (Or.inr ⟨by kernel_rfl, rfl⟩) hH ?_
    simp only [Act.put]
    refine wpAnyH_take (i := 6) (v := undef) rfl (by kernel_rfl) (by kernel_rfl) (by kernel_rfl) (fun _ _ _ h => h) (Or.inr ⟨by kernel_rfl, rfl⟩) hH ?_
    simp only [Act.put]
    refine wpAnyH_ready (rs := [7]) (by kernel_rfl) (by simp) ?_
    refine AllReadyH.cons rfl (fun K hK => ?_) AllReadyH.nil
    go_simp
    refine hK.out _ _ (hH) (fun hH => ?_)
    clear hK K
    try simp only [Act.put]
    refine wpAnyH_ready (rs := [8]) (by kernel_rfl) (by simp) ?_
    refine AllReadyH.cons rfl (fun K hK => ?_) AllReadyH.nil
    go_simp
    refine hK.out _ _ (hH) (fun hH => ?_)
    clear hK K
    try simp only [Act.put]
    refine wpAnyH_done (by kernel_rfl) ?_ _
    try simp only [Act.put]
    go_wp2_with fail
    go_meet
    case rel => exact ⟨rfl, hH⟩
  case rest =>
  obtain ⟨rfl, hbx⟩ := hcut
  have hbb := HBB.out.trans (hbx.mono HBB.out.size)
  have hr0 := HRZ.out.below hbx HRZ.out.lt
  clear hbx
  go_wp2_with (refine wpl_store_st rfl (.tmp 2) (.tmp 29) rfl HZ.out w.heap.size en0.cells en0.cells rfl rfl hr0 ?_ (hid rfl) (hid rfl) (hid (ecells_one en0)); intro wz hrz hgz; have HBZ := hid (hbb.trans (below_grown hgz (Nat.le_refl _) hbb.size)); clear hgz)
  refine bodyPost_ret (v := .tuple #[.agg en0.cells, .int .i64 4]) (results_cell1 rfl _ _ w.heap.size 24 en0.cells (0, 0) _ (.int .i64 4) rfl rfl (Row.arr hrz) Tryd.underlying24 rfl HZ.out) rfl ⟨rfl, HBZ.out⟩

set_option maxHeartbeats 2000000 in
theorem eup_bad (s : ByteArray) (h g : Hd) (b : ByteArray) (x : En) (w : World) (hf : Fd w)
    (HU : Hid (∀ W : World, Fd W → Calls Tryd.prog 25 #[.string s] W fun x W' => x = .returned (.tuple #[h.val, .string b, .int .i64 0]) ∧ Below W.heap.size W W'))
    (HEO : Hid (∀ W : World, Calls Tryd.prog 26 #[.agg h.cells, .string b] W (VE W (.agg x.cells))))
    (HR : Hid (∀ W : World, Calls Tryd.prog 11 #[.agg x.cells] W (VE W (.bool true))))
    (HH : Hid (∀ W : World, Calls Tryd.prog 21 #[.agg x.cells] W (VE W (.agg g.cells))))
    (HEQ : Hid (∀ W : World, (Op.equalIn 10000 43 (.agg g.cells) (.agg h.cells)).run Tryd.prog W = .ok false W)) :
    Calls Tryd.prog 13 #[.string s] w (EE w (en0, 4)) := by
  have HZ := hid esize
  have HF := hid hf
  have HZH := hid hsize
  have HB0 := hid ((Below.refl w.heap.size w).alloc (Nat.le_refl _) (.cells en0.cells 24))
  have HR0 : Hid (Row (w.alloc (.cells en0.cells 24)) w.heap.size 24 en0.cells.toList) := hid (Row.new _ _ _)
  clear hf
  go_enter Tryd.func13, Tryd.ntmps13
  go_wp2_with (first
    | (go_at_call 25; refine (HU.out _ (HF.out.below HB0.out HF.out.1)).mono ?_; rintro e w1 ⟨rfl, hb1⟩; have hlt0 := HR0.out.lt; have hr0 := HR0.out.below hb1 hlt0; have hbb := HB0.out.trans (hb1.mono HB0.out.size); clear hb1)
    | (refine wpl_store_head rfl (.tmp 4) (.tmp 11) rfl w1.heap.size h rfl rfl (Row.new _ _ _) ?_; intro w2 hr2 hg2; have hl1 := hr0.lt; have hr0x := (hr0.alloc _).grown hg2 (by intro e; have := Option.some.inj e; omega); have hbb2 := (hbb.alloc hbb.size _).trans (below_grown hg2 hbb.size (by have := hbb.size; simp; omega)); clear hr0 hbb; have hr0 := hr0x; have hbb := hbb2; clear hr0x hbb2 hg2)
    | (refine wpList_load_row rfl 43 (.tmp 4) rfl w1.heap.size rfl 43 h.cells (0, 0) _ hr2.arr Tryd.underlying43 rfl HZH.out ?_)
    | (go_at_call 26; refine (HEO.out _).mono ?_; rintro e w3 ⟨rfl, hb3⟩; have hr0y := hr0.below hb3 hr0.lt; have hr2y := hr2.below hb3 hr2.lt; have hbb3 := hbb.trans (hb3.mono hbb.size); clear hr0 hr2 hbb hb3)
    | (refine wpl_store_st rfl (.tmp 7) (.tmp 19) rfl HZ.out w3.heap.size en0.cells x.cells rfl rfl (Row.new _ _ _) ?_ (hid rfl) (hid rfl) (hid (ecells_one x)); intro w4 hr4 hg4; have hr0 := (hr0y.alloc _).grown hg4 (by intro e; have := Option.some.inj e; have := hr0y.lt; omega); have hr2 := (hr2y.alloc _).grown hg4 (by intro e; have := Option.some.inj e; have := hr2y.lt; omega); have hbb := (hbb3.alloc hbb3.size _).trans (below_grown hg4 hbb3.size (by have := hbb3.size; simp; omega)); clear hr0y hr2y hbb3 hg4))
  simp only [Act.put]
  have HR4 := hid hr4
  have HR2 := hid hr2
  have HRZ := hid hr0
  have HBB := hid hbb
  clear hr4 hr2 hr0 hbb
  go_cut [28] (fun v wx => v = .bool true ∧ Below w4.heap.size w4 wx)
  case first =>
    refine wp_region_held_drew (S := fun W => Below w4.heap.size w4 W) (by kernel_rfl) ((Below.refl _ _).drew) (fun hH => ?_)
    refine wpAnyH_take (i := 0) (v := .agg x.cells) rfl (by kernel_rfl) (by kernel_rfl) (by kernel_rfl) (fun _ _ _ h => h) ?_ hH ?_
    · refine yieldsIf_load_mid ?_ 24 (.tmp 7) ?_ w3.heap.size 0 ?_ (Array.toList x.cells) _ (fun W hW => Row.range (HR4.out.below hW HR4.out.lt)) Tryd.underlying24 rfl HZ.out
      all_goals kernel_rfl
    simp only [Act.put]
    refine wpAnyH_ready (rs := [1]) (by kernel_rfl) (by simp) ?_
    refine AllReadyH.cons rfl (fun K hK => ?_) AllReadyH.nil
    go_simp
    go_at_call 11
    refine (HR.out _).mono ?_
    rintro e w5 ⟨rfl, hb5⟩
    go_wp2_with fail
    refine hK.out _ _ (hH.trans (Below.mono hb5 hH.size)) (fun hH => ?_)
    clear hK K
    try simp only [Act.put]
    refine wpAnyH_take (i := 2) (v := .bool false) rfl (by kernel_rfl) (by kernel_rfl) (by kernel_rfl) (fun _ _ _ h => h) (Or.inl ⟨by rfl, fun w' hw' => by clear hw'; go_simp⟩) hH ?_
    simp only [Act.put]
    refine wpAnyH_take (i := 3) (v := .bool false) rfl (by kernel_rfl) (by kernel_rfl) (by kernel_rfl) (fun _ _ _ h => h) (Or.inl ⟨by rfl, fun w' hw' => by clear hw'; go_simp⟩) hH ?_
    simp only [Act.put]
    refine wpAnyH_take (i := 4) (v := .agg x.cells) rfl (by kernel_rfl) (by kernel_rfl) (by kernel_rfl) (fun _ _ _ h => h) ?_ hH ?_
    · refine yieldsIf_load_mid ?_ 24 (.tmp 7) ?_ w3.heap.size 0 ?_ (Array.toList x.cells) _ (fun W hW => Row.range (HR4.out.below hW HR4.out.lt)) Tryd.underlying24 rfl HZ.out
      all_goals kernel_rfl
    simp only [Act.put]
    refine wpAnyH_take (i := 6) (v := .agg h.cells) rfl (by kernel_rfl) (by kernel_rfl) (by kernel_rfl) (fun _ _ _ h => h) ?_ hH ?_
    · refine yieldsIf_load_mid ?_ 43 (.tmp 4) ?_ w1.heap.size 0 ?_ (Array.toList h.cells) _ (fun W hW => Row.range (HR2.out.below hW HR2.out.lt)) Tryd.underlying43 rfl HZH.out
      all_goals kernel_rfl
    simp only [Act.put]
    refine wpAnyH_ready (rs := [5]) (by kernel_rfl) (by simp) ?_
    refine AllReadyH.cons rfl (fun K hK => ?_) AllReadyH.nil
    rw [if_pos (by kernel_rfl)]
    go_simp
    go_at_call 21
    refine (HH.out _).mono ?_
    rintro e w6 ⟨rfl, hb6⟩
    go_wp2_with fail
    refine hK.out _ _ (hH.trans (Below.mono hb6 hH.size)) (fun hH => ?_)
    clear hK K
    try simp only [Act.put]
    refine wpAnyH_take (i := 7) (v := .bool true) rfl (by kernel_rfl) (by kernel_rfl) (by kernel_rfl) (fun _ _ _ h => h) ?_ hH ?_
    · refine yields_neh ?_ (.tmp 25) (.tmp 26) 43 ?_ g.cells h.cells ?_ ?_ false HEQ.out
      all_goals kernel_rfl
    simp only [Act.put]
    refine wpAnyH_ready (rs := [8]) (by kernel_rfl) (by simp) ?_
    refine AllReadyH.cons rfl (fun K hK => ?_) AllReadyH.nil
    go_simp
    refine hK.out _ _ (hH) (fun hH => ?_)
    clear hK K
    try simp only [Act.put]
    refine wpAnyH_done (by kernel_rfl) ?_ _
    try simp only [Act.put]
    go_wp2_with fail
    go_meet
    case rel => exact ⟨rfl, hH⟩
  case rest =>
  obtain ⟨rfl, hbx⟩ := hcut
  have hbb := HBB.out.trans (hbx.mono HBB.out.size)
  have hr0 := HRZ.out.below hbx HRZ.out.lt
  clear hbx
  go_wp2_with (refine wpl_store_st rfl (.tmp 2) (.tmp 29) rfl HZ.out w.heap.size en0.cells en0.cells rfl rfl hr0 ?_ (hid rfl) (hid rfl) (hid (ecells_one en0)); intro wz hrz hgz; have HBZ := hid (hbb.trans (below_grown hgz (Nat.le_refl _) hbb.size)); clear hgz)
  refine bodyPost_ret (v := .tuple #[.agg en0.cells, .int .i64 4]) (results_cell1 rfl _ _ w.heap.size 24 en0.cells (0, 0) _ (.int .i64 4) rfl rfl (Row.arr hrz) Tryd.underlying24 rfl HZ.out) rfl ⟨rfl, HBZ.out⟩

set_option maxHeartbeats 2000000 in
theorem eup_good (s : ByteArray) (h g : Hd) (b : ByteArray) (x : En) (w : World) (hf : Fd w)
    (HU : Hid (∀ W : World, Fd W → Calls Tryd.prog 25 #[.string s] W fun x W' => x = .returned (.tuple #[h.val, .string b, .int .i64 0]) ∧ Below W.heap.size W W'))
    (HEO : Hid (∀ W : World, Calls Tryd.prog 26 #[.agg h.cells, .string b] W (VE W (.agg x.cells))))
    (HR : Hid (∀ W : World, Calls Tryd.prog 11 #[.agg x.cells] W (VE W (.bool true))))
    (HH : Hid (∀ W : World, Calls Tryd.prog 21 #[.agg x.cells] W (VE W (.agg g.cells))))
    (HEQ : Hid (∀ W : World, (Op.equalIn 10000 43 (.agg g.cells) (.agg h.cells)).run Tryd.prog W = .ok true W)) :
    Calls Tryd.prog 13 #[.string s] w (EE w (x, 0)) := by
  have HZ := hid esize
  have HF := hid hf
  have HZH := hid hsize
  have HB0 := hid ((Below.refl w.heap.size w).alloc (Nat.le_refl _) (.cells en0.cells 24))
  have HR0 : Hid (Row (w.alloc (.cells en0.cells 24)) w.heap.size 24 en0.cells.toList) := hid (Row.new _ _ _)
  clear hf
  go_enter Tryd.func13, Tryd.ntmps13
  go_wp2_with (first
    | (go_at_call 25; refine (HU.out _ (HF.out.below HB0.out HF.out.1)).mono ?_; rintro e w1 ⟨rfl, hb1⟩; have hlt0 := HR0.out.lt; have hr0 := HR0.out.below hb1 hlt0; have hbb := HB0.out.trans (hb1.mono HB0.out.size); clear hb1)
    | (refine wpl_store_head rfl (.tmp 4) (.tmp 11) rfl w1.heap.size h rfl rfl (Row.new _ _ _) ?_; intro w2 hr2 hg2; have hl1 := hr0.lt; have hr0x := (hr0.alloc _).grown hg2 (by intro e; have := Option.some.inj e; omega); have hbb2 := (hbb.alloc hbb.size _).trans (below_grown hg2 hbb.size (by have := hbb.size; simp; omega)); clear hr0 hbb; have hr0 := hr0x; have hbb := hbb2; clear hr0x hbb2 hg2)
    | (refine wpList_load_row rfl 43 (.tmp 4) rfl w1.heap.size rfl 43 h.cells (0, 0) _ hr2.arr Tryd.underlying43 rfl HZH.out ?_)
    | (go_at_call 26; refine (HEO.out _).mono ?_; rintro e w3 ⟨rfl, hb3⟩; have hr0y := hr0.below hb3 hr0.lt; have hr2y := hr2.below hb3 hr2.lt; have hbb3 := hbb.trans (hb3.mono hbb.size); clear hr0 hr2 hbb hb3)
    | (refine wpl_store_st rfl (.tmp 7) (.tmp 19) rfl HZ.out w3.heap.size en0.cells x.cells rfl rfl (Row.new _ _ _) ?_ (hid rfl) (hid rfl) (hid (ecells_one x)); intro w4 hr4 hg4; have hr0 := (hr0y.alloc _).grown hg4 (by intro e; have := Option.some.inj e; have := hr0y.lt; omega); have hr2 := (hr2y.alloc _).grown hg4 (by intro e; have := Option.some.inj e; have := hr2y.lt; omega); have hbb := (hbb3.alloc hbb3.size _).trans (below_grown hg4 hbb3.size (by have := hbb3.size; simp; omega)); clear hr0y hr2y hbb3 hg4))
  simp only [Act.put]
  have HR4 := hid hr4
  have HR2 := hid hr2
  have HRZ := hid hr0
  have HBB := hid hbb
  clear hr4 hr2 hr0 hbb
  go_cut [28] (fun v wx => v = .bool false ∧ Below w4.heap.size w4 wx)
  case first =>
    refine wp_region_held_drew (S := fun W => Below w4.heap.size w4 W) (by kernel_rfl) ((Below.refl _ _).drew) (fun hH => ?_)
    refine wpAnyH_take (i := 0) (v := .agg x.cells) rfl (by kernel_rfl) (by kernel_rfl) (by kernel_rfl) (fun _ _ _ h => h) ?_ hH ?_
    · refine yieldsIf_load_mid ?_ 24 (.tmp 7) ?_ w3.heap.size 0 ?_ (Array.toList x.cells) _ (fun W hW => Row.range (HR4.out.below hW HR4.out.lt)) Tryd.underlying24 rfl HZ.out
      all_goals kernel_rfl
    simp only [Act.put]
    refine wpAnyH_ready (rs := [1]) (by kernel_rfl) (by simp) ?_
    refine AllReadyH.cons rfl (fun K hK => ?_) AllReadyH.nil
    go_simp
    go_at_call 11
    refine (HR.out _).mono ?_
    rintro e w5 ⟨rfl, hb5⟩
    go_wp2_with fail
    refine hK.out _ _ (hH.trans (Below.mono hb5 hH.size)) (fun hH => ?_)
    clear hK K
    try simp only [Act.put]
    refine wpAnyH_take (i := 2) (v := .bool false) rfl (by kernel_rfl) (by kernel_rfl) (by kernel_rfl) (fun _ _ _ h => h) (Or.inl ⟨by rfl, fun w' hw' => by clear hw'; go_simp⟩) hH ?_
    simp only [Act.put]
    refine wpAnyH_take (i := 3) (v := .bool false) rfl (by kernel_rfl) (by kernel_rfl) (by kernel_rfl) (fun _ _ _ h => h) (Or.inl ⟨by rfl, fun w' hw' => by clear hw'; go_simp⟩) hH ?_
    simp only [Act.put]
    refine wpAnyH_take (i := 4) (v := .agg x.cells) rfl (by kernel_rfl) (by kernel_rfl) (by kernel_rfl) (fun _ _ _ h => h) ?_ hH ?_
    · refine yieldsIf_load_mid ?_ 24 (.tmp 7) ?_ w3.heap.size 0 ?_ (Array.toList x.cells) _ (fun W hW => Row.range (HR4.out.below hW HR4.out.lt)) Tryd.underlying24 rfl HZ.out
      all_goals kernel_rfl
    simp only [Act.put]
    refine wpAnyH_take (i := 6) (v := .agg h.cells) rfl (by kernel_rfl) (by kernel_rfl) (by kernel_rfl) (fun _ _ _ h => h) ?_ hH ?_
    · refine yieldsIf_load_mid ?_ 43 (.tmp 4) ?_ w1.heap.size 0 ?_ (Array.toList h.cells) _ (fun W hW => Row.range (HR2.out.below hW HR2.out.lt)) Tryd.underlying43 rfl HZH.out
      all_goals kernel_rfl
    simp only [Act.put]
    refine wpAnyH_ready (rs := [5]) (by kernel_rfl) (by simp) ?_
    refine AllReadyH.cons rfl (fun K hK => ?_) AllReadyH.nil
    rw [if_pos (by kernel_rfl)]
    go_simp
    go_at_call 21
    refine (HH.out _).mono ?_
    rintro e w6 ⟨rfl, hb6⟩
    go_wp2_with fail
    refine hK.out _ _ (hH.trans (Below.mono hb6 hH.size)) (fun hH => ?_)
    clear hK K
    try simp only [Act.put]
    refine wpAnyH_take (i := 7) (v := .bool false) rfl (by kernel_rfl) (by kernel_rfl) (by kernel_rfl) (fun _ _ _ h => h) ?_ hH ?_
    · refine yields_neh ?_ (.tmp 25) (.tmp 26) 43 ?_ g.cells h.cells ?_ ?_ true HEQ.out
      all_goals kernel_rfl
    simp only [Act.put]
    refine wpAnyH_ready (rs := [8]) (by kernel_rfl) (by simp) ?_
    refine AllReadyH.cons rfl (fun K hK => ?_) AllReadyH.nil
    go_simp
    refine hK.out _ _ (hH) (fun hH => ?_)
    clear hK K
    try simp only [Act.put]
    refine wpAnyH_done (by kernel_rfl) ?_ _
    try simp only [Act.put]
    go_wp2_with fail
    go_meet
    case rel => exact ⟨rfl, hH⟩
  case rest =>
  obtain ⟨rfl, hbx⟩ := hcut
  have hbb := HBB.out.trans (hbx.mono HBB.out.size)
  have hr0 := HRZ.out.below hbx HRZ.out.lt
  have hr4 := HR4.out.below hbx HR4.out.lt
  clear hbx
  go_wp2_with (first
    | (refine wpList_load_row rfl 24 (.tmp 7) rfl w3.heap.size rfl 24 x.cells (0, 0) _ hr4.arr Tryd.underlying24 rfl HZ.out ?_)
    | (refine wpl_store_st rfl (.tmp 2) (.tmp 30) rfl HZ.out w.heap.size en0.cells x.cells rfl rfl hr0 ?_ (hid rfl) (hid rfl) (hid (ecells_one x)); intro wz hrz hgz; have HBZ := hid (hbb.trans (below_grown hgz (Nat.le_refl _) hbb.size)); clear hgz))
  refine bodyPost_ret (v := .tuple #[.agg x.cells, .int .i64 0]) (results_cell1 rfl _ _ w.heap.size 24 x.cells (0, 0) _ (.int .i64 0) rfl rfl (Row.arr hrz) Tryd.underlying24 rfl HZ.out) rfl ⟨rfl, HBZ.out⟩

theorem eup_any (s : ByteArray) (w : World) (hf : Fd w) (hbig : s.size ≤ 281474976710656) : Calls Tryd.prog 13 #[.string s] w (EE w (unpackE (sb s))) := by
  have HU := hid (fun W hW => unp_any s W hW hbig)
  unfold unpackE
  generalize unpackS (sb s) = r at HU ⊢
  obtain ⟨h, b, f⟩ := r
  simp only
  obtain ⟨bb, hbb⟩ : ∃ bb : ByteArray, bb = ⟨b.toArray⟩ := ⟨_, rfl⟩
  rw [← hbb]
  have HU2 : Hid (∀ W : World, Fd W → Calls Tryd.prog 25 #[.string s] W fun x W' => x = .returned (.tuple #[h.val, .string bb, .int .i64 f]) ∧ Below W.heap.size W W') := hid fun W hW => by rw [hbb]; exact HU.out W hW
  by_cases h0 : f = 0
  · subst h0
    have HEO := hid (fun W => eof_any h bb W)
    have HR := hid (fun W => eright_any (eof h bb) W)
    have HH := hid (fun W => hof_any (eof h bb) W)
    have HEQ := hid (fun W => eql_head (hof (eof h bb)) h W)
    by_cases h1 : Rt (eof h bb)
    · rw [decide_eq_true h1] at HR
      by_cases h2 : hof (eof h bb) = h
      · rw [if_pos ⟨rfl, h1, h2⟩]
        rw [decide_eq_true h2] at HEQ
        exact eup_good s h (hof (eof h bb)) bb (eof h bb) w hf HU2 HEO HR HH HEQ
      · rw [if_neg (fun c => h2 c.2.2)]
        rw [decide_eq_false h2] at HEQ
        exact eup_bad s h (hof (eof h bb)) bb (eof h bb) w hf HU2 HEO HR HH HEQ
    · rw [if_neg (fun c => h1 c.2.1)]
      rw [decide_eq_false h1] at HR
      exact eup_no s h bb (eof h bb) w hf HU2 HEO HR
  · rw [if_neg (fun c => h0 c.1)]
    exact eup_none s h bb f w hf (by simpa using h0) HU2
end Go.Proofs.YtknalgobndbngaaDoor
