/-
  The walk of HeadPacks.
-/
import Derived.Test.YtfkhfajkhijbpaaDoorTurns
namespace Go.Proofs.YtfkhfajkhijbpaaDoor
open Go.RowKit
set_option maxRecDepth 10000

set_option maxHeartbeats 2000000 in
theorem packs_ok (cs : List Value) (body T : ByteArray) (e : Int) (r : Bool) (h : Hd) (w : World) (hf : Fd w) (hcs : h.cells = cs.toArray)
    (hC : (Tryd.prog.info? 24).map (·.size) = some cs.toArray.size)
    (HP : Hid (∀ W : World, Fd W → Calls Tryd.prog 8 #[.agg cs.toArray, .string body] W fun x W' => x = .returned (.tuple #[.string T, .int .i64 e]) ∧ Below W.heap.size W W'))
    (HQ : Hid (∀ W : World, Calls Tryd.prog 9 #[.agg cs.toArray, .string body] W fun x W' => x = .returned (.tuple #[.string T, .int .i64 e]) ∧ Below W.heap.size W W'))
    (HR : Hid (∀ W : World, Fd W → Calls Tryd.prog 10 #[.agg cs.toArray] W (VE W (.bool r))))
    (HS : Hid (∀ W : World, Calls Tryd.prog 11 #[.agg cs.toArray] W (VE W (.bool r))))
    (HU : Hid (∀ W : World, Fd W → Calls Tryd.prog 12 #[.string T] W fun x W' => x = .returned (.tuple #[h.val, .string body, .int .i64 0]) ∧ Below W.heap.size W W'))
    (hE : ∀ W, (Op.equalIn 10000 24 (.agg cs.toArray) (.agg cs.toArray)).run Tryd.prog W = .ok true W)
    (ha : decide (5000 < (body.size : Int)) = false) (he : (e != 0) = false) (hTs : T.size = 128 + body.size) (hbs : body.size ≤ 3968) :
    Calls Tryd.prog 3 #[.agg cs.toArray, .string body] w (Yes w) := by
  have HA := hid awake_any
  have HLa := hid (fun W => long_any body W)
  rw [ha] at HLa
  have HF := hid hf
  have HCz := hid hC
  have HB := hid ((Below.refl w.heap.size w).alloc (Nat.le_refl _) (.cells cs.toArray 24))
  have HRC : Hid (Row (w.alloc (.cells cs.toArray 24)) w.heap.size 24 cs) := hid (Row.new _ _ _)
  have hEG := eqGuardHead
  have HHC := hid hcs
  clear hf hC ha hcs
  go_enter Tryd.func3, Tryd.ntmps3
  go_wp2_with (first
      | (go_at_call 6; refine (HA.out _ (HF.out.below HB.out HF.out.1)).mono ?_; rintro x w1 ⟨rfl, hb1⟩; have hbb := HB.out.trans (hb1.mono HB.out.size); have hrC := HRC.out.below hb1 HRC.out.lt; clear hb1)
      | (go_at_call 7; refine (HLa.out _).mono ?_; rintro x w' ⟨rfl, rfl⟩)
      | (refine wpList_load_row rfl 24 (.tmp 2) rfl w.heap.size rfl 24 cs.toArray (0, 0) _ hrC Tryd.underlying24 rfl HCz.out ?_)
      | (go_at_call 8; refine (HP.out _ (HF.out.below hbb HF.out.1)).mono ?_; rintro x w2 ⟨rfl, hb2⟩; replace hbb := hbb.trans (hb2.mono hbb.size); replace hrC := hrC.below hb2 hrC.lt; clear hb2)
      | (go_at_call 9; refine (HQ.out _).mono ?_; rintro x w3 ⟨rfl, hb3⟩; replace hbb := hbb.trans (hb3.mono hbb.size); replace hrC := hrC.below hb3 hrC.lt; clear hb3))
  have HBB := hid hbb
  have HRO := hid hrC
  clear hbb hrC
  go_cut [42] (fun b wx => b = .bool false ∧ Below w.heap.size w wx ∧ Row wx w.heap.size 24 cs)
  case first =>
    have hsz2 := HCz.out
    refine wp_region_held_drew (S := fun w' => w'.rangeAt w.heap.size 0 cs) (by kernel_rfl) HRO.out.range (fun hH => ?_)
    refine wpAnyH_take (i := 0) (v := .string T) rfl (by kernel_rfl) (by kernel_rfl) (by kernel_rfl) (fun _ _ _ h => h) (Or.inl ⟨by rfl, fun w' hw' => by clear hw'; go_simp⟩) hH ?_
    simp only [Act.put]
    refine wpAnyH_take (i := 1) (v := .string T) rfl (by kernel_rfl) (by kernel_rfl) (by kernel_rfl) (fun _ _ _ h => h) (Or.inl ⟨by rfl, fun w' hw' => by clear hw'; go_simp⟩) hH ?_
    simp only [Act.put]
    refine wpAnyH_take (i := 2) (v := .bool false) rfl (by kernel_rfl) (by kernel_rfl) (by kernel_rfl) (fun _ _ _ h => h) (Or.inl ⟨by rfl, fun w' hw' => by clear hw'; go_simp⟩) hH ?_
    simp only [Act.put]
    refine wpAnyH_take (i := 3) (v := .bool false) rfl (by kernel_rfl) (by kernel_rfl) (by kernel_rfl) (fun _ _ _ h => h) (Or.inl ⟨by rfl, fun w' hw' => by clear hw'; go_simp⟩) hH ?_
    simp only [Act.put]
    refine wpAnyH_take (i := 4) (v := .int .i64 e) rfl (by kernel_rfl) (by kernel_rfl) (by kernel_rfl) (fun _ _ _ h => h) (Or.inl ⟨by rfl, fun w' hw' => by clear hw'; go_simp⟩) hH ?_
    simp only [Act.put]
    refine wpAnyH_take (i := 5) (v := .int .i64 e) rfl (by kernel_rfl) (by kernel_rfl) (by kernel_rfl) (fun _ _ _ h => h) (Or.inl ⟨by rfl, fun w' hw' => by clear hw'; go_simp⟩) hH ?_
    simp only [Act.put]
    refine wpAnyH_take (i := 6) (v := .bool false) rfl (by kernel_rfl) (by kernel_rfl) (by kernel_rfl) (fun _ _ _ h => h) (Or.inl ⟨by rfl, fun w' hw' => by clear hw'; go_simp⟩) hH ?_
    simp only [Act.put]
    refine wpAnyH_take (i := 7) (v := .bool false) rfl (by kernel_rfl) (by kernel_rfl) (by kernel_rfl) (fun _ _ _ h => h) (Or.inl ⟨by rfl, fun w' hw' => by clear hw'; go_simp⟩) hH ?_
    simp only [Act.put]
    refine wpAnyH_take (i := 8) (v := .bool false) rfl (by kernel_rfl) (by kernel_rfl) (by kernel_rfl) (fun _ _ _ h => h) (Or.inl ⟨by rfl, fun w' hw' => by clear hw'; go_simp⟩) hH ?_
    simp only [Act.put]
    refine wpAnyH_take (i := 9) (v := .agg cs.toArray) rfl (by kernel_rfl) (by kernel_rfl) (by kernel_rfl) (fun _ _ _ h => h) ?_ hH ?_
    · refine yieldsIf_load_mid ?_ 24 (.tmp 2) ?_ w.heap.size 0 ?_ _ _ (fun _ hw => hw) Tryd.underlying24 rfl (by simpa using hsz2)
      all_goals kernel_rfl
    simp only [Act.put]
    refine wpAnyH_take (i := 11) (v := .agg cs.toArray) rfl (by kernel_rfl) (by kernel_rfl) (by kernel_rfl) (fun _ _ _ h => h) ?_ hH ?_
    · refine yieldsIf_load_mid ?_ 24 (.tmp 2) ?_ w.heap.size 0 ?_ _ _ (fun _ hw => hw) Tryd.underlying24 rfl (by simpa using hsz2)
      all_goals kernel_rfl
    simp only [Act.put]
    refine wpAnyH_ready (rs := [10]) (by kernel_rfl) (by simp) ?_
    refine AllReadyH.cons rfl (fun K hK => ?_) AllReadyH.nil
    · clear hH
      go_simp
      go_at_call 10
      refine (HR.out _ (HF.out.below HBB.out.drew HF.out.1)).mono ?_
      rintro e4 w4 ⟨rfl, hb4x⟩
      have hb4 : Below w3.heap.size w3 w4 := ((Below.refl _ _).drew).trans hb4x
      have hr4 := HRO.out.below hb4 HRO.out.lt
      go_wp2_with fail
      refine hK.out _ _ hr4.range (fun hH => ?_)
      clear hK K hH
      try simp only [Act.put]
      refine wpAnyH_ready (rs := [12]) (by kernel_rfl) (by simp) ?_
      refine AllReadyH.cons rfl (fun K hK => ?_) AllReadyH.nil
      go_simp
      go_at_call 11
      refine (HS.out _).mono ?_
      rintro e5 w5 ⟨rfl, hb5⟩
      have hr5 := hr4.below hb5 hr4.lt
      go_wp2_with fail
      refine hK.out _ _ hr5.range (fun hH => ?_)
      clear hK K
      try simp only [Act.put]
      refine wpAnyH_ready (rs := [13]) (by kernel_rfl) (by simp) ?_
      refine AllReadyH.cons rfl (fun K hK => ?_) AllReadyH.nil
      go_simp
      refine hK.out _ _ hH (fun hH => ?_)
      clear hK K
      try simp only [Act.put]
      refine wpAnyH_ready (rs := [14]) (by kernel_rfl) (by simp) ?_
      refine AllReadyH.cons rfl (fun K hK => ?_) AllReadyH.nil
      go_simp
      refine hK.out _ _ hH (fun hH => ?_)
      clear hK K
      try simp only [Act.put]
      refine wpAnyH_done (by kernel_rfl) ?_ _
      go_wp2_with fail
      go_meet
      case rel => exact ⟨rfl, (HBB.out.trans (hb4.mono HBB.out.size)).trans (hb5.mono (Nat.le_trans HBB.out.size hb4.size)), hr5⟩
  case rest =>
  obtain ⟨rfl, hbb, hrC⟩ := hcut
  go_wp2_with (first
    | (refine wpList_load_row rfl 24 (.tmp 2) rfl w.heap.size rfl 24 cs.toArray (0, 0) _ hrC Tryd.underlying24 rfl HCz.out ?_)
    | (refine wpList_load_row rfl 24 (.tmp 9) rfl w6.heap.size rfl 24 cs.toArray (0, 0) _ hr7 Tryd.underlying24 rfl HCz.out ?_)
    | (go_at_call 12; refine (HU.out _ (HF.out.below hbb HF.out.1)).mono ?_; rintro x w6 ⟨rfl, hb6⟩; replace hbb := hbb.trans (hb6.mono hbb.size); replace hrC := hrC.below hb6 hrC.lt)
    | (refine wpl_store_head rfl (.tmp 9) (.tmp 50) rfl w6.heap.size h rfl rfl (Row.new _ _ _) ?_; intro w7 hr7x hg7; have hr7 : Row w7 w6.heap.size 24 cs := (by rw [HHC.out] at hr7x; exact hr7x); have hlt6 := hrC.lt; replace hrC := (hrC.alloc _).grown hg7 (by simp only [ne_eq, Option.some.injEq]; omega); replace hbb := (hbb.alloc hbb.size _).trans (below_grown hg7 hbb.size (by simp; have := hbb.size; omega)); clear hr7x hg7))
  go_ret
  exact ⟨rfl, hbb⟩

set_option maxHeartbeats 1000000 in
theorem packs_long (C : Array Value) (body : ByteArray) (w : World) (hf : Fd w) (ha : decide (5000 < (body.size : Int)) = true) :
    Calls Tryd.prog 3 #[.agg C, .string body] w (Yes w) := by
  have HA := hid awake_any
  have HLa := hid (fun W => long_any body W)
  rw [ha] at HLa
  have HF := hid hf
  have HB := hid ((Below.refl w.heap.size w).alloc (Nat.le_refl _) (.cells C 24))
  clear hf ha
  go_enter Tryd.func3, Tryd.ntmps3
  go_wp2_with (first
      | (go_at_call 6; refine (HA.out _ (HF.out.below HB.out HF.out.1)).mono ?_; rintro x w1 ⟨rfl, hb1⟩; have hbb := HB.out.trans (hb1.mono HB.out.size))
      | (go_at_call 7; refine (HLa.out _).mono ?_; rintro x w' ⟨rfl, rfl⟩))
  go_ret
  exact ⟨rfl, hbb⟩

set_option maxHeartbeats 2000000 in
theorem packs_err (cs : List Value) (body T : ByteArray) (e : Int) (r : Bool) (w : World) (hf : Fd w)
    (hC : (Tryd.prog.info? 24).map (·.size) = some cs.toArray.size)
    (HP : Hid (∀ W : World, Fd W → Calls Tryd.prog 8 #[.agg cs.toArray, .string body] W fun x W' => x = .returned (.tuple #[.string T, .int .i64 e]) ∧ Below W.heap.size W W'))
    (HQ : Hid (∀ W : World, Calls Tryd.prog 9 #[.agg cs.toArray, .string body] W fun x W' => x = .returned (.tuple #[.string T, .int .i64 e]) ∧ Below W.heap.size W W'))
    (HR : Hid (∀ W : World, Fd W → Calls Tryd.prog 10 #[.agg cs.toArray] W (VE W (.bool r))))
    (HS : Hid (∀ W : World, Calls Tryd.prog 11 #[.agg cs.toArray] W (VE W (.bool r))))
    (ha : decide (5000 < (body.size : Int)) = false) (he : (e != 0) = true) (hT : T = ⟨#[]⟩) :
    Calls Tryd.prog 3 #[.agg cs.toArray, .string body] w (Yes w) := by
  have HA := hid awake_any
  have HLa := hid (fun W => long_any body W)
  rw [ha] at HLa
  have HF := hid hf
  have HCz := hid hC
  have HB := hid ((Below.refl w.heap.size w).alloc (Nat.le_refl _) (.cells cs.toArray 24))
  have HRC : Hid (Row (w.alloc (.cells cs.toArray 24)) w.heap.size 24 cs) := hid (Row.new _ _ _)
  have HTE := hid hT
  clear hf hC ha hT
  go_enter Tryd.func3, Tryd.ntmps3
  go_wp2_with (first
      | (go_at_call 6; refine (HA.out _ (HF.out.below HB.out HF.out.1)).mono ?_; rintro x w1 ⟨rfl, hb1⟩; have hbb := HB.out.trans (hb1.mono HB.out.size); have hrC := HRC.out.below hb1 HRC.out.lt; clear hb1)
      | (go_at_call 7; refine (HLa.out _).mono ?_; rintro x w' ⟨rfl, rfl⟩)
      | (refine wpList_load_row rfl 24 (.tmp 2) rfl w.heap.size rfl 24 cs.toArray (0, 0) _ hrC Tryd.underlying24 rfl HCz.out ?_)
      | (go_at_call 8; refine (HP.out _ (HF.out.below hbb HF.out.1)).mono ?_; rintro x w2 ⟨rfl, hb2⟩; replace hbb := hbb.trans (hb2.mono hbb.size); replace hrC := hrC.below hb2 hrC.lt; clear hb2)
      | (go_at_call 9; refine (HQ.out _).mono ?_; rintro x w3 ⟨rfl, hb3⟩; replace hbb := hbb.trans (hb3.mono hbb.size); replace hrC := hrC.below hb3 hrC.lt; clear hb3))
  have HBB := hid hbb
  have HRO := hid hrC
  clear hbb hrC
  go_cut [42] (fun b wx => b = .bool false ∧ Below w.heap.size w wx ∧ Row wx w.heap.size 24 cs)
  case first =>
    have hsz2 := HCz.out
    refine wp_region_held_drew (S := fun w' => w'.rangeAt w.heap.size 0 cs) (by kernel_rfl) HRO.out.range (fun hH => ?_)
    refine wpAnyH_take (i := 0) (v := .string T) rfl (by kernel_rfl) (by kernel_rfl) (by kernel_rfl) (fun _ _ _ h => h) (Or.inl ⟨by rfl, fun w' hw' => by clear hw'; go_simp⟩) hH ?_
    simp only [Act.put]
    refine wpAnyH_take (i := 1) (v := .string T) rfl (by kernel_rfl) (by kernel_rfl) (by kernel_rfl) (fun _ _ _ h => h) (Or.inl ⟨by rfl, fun w' hw' => by clear hw'; go_simp⟩) hH ?_
    simp only [Act.put]
    refine wpAnyH_take (i := 2) (v := .bool false) rfl (by kernel_rfl) (by kernel_rfl) (by kernel_rfl) (fun _ _ _ h => h) (Or.inl ⟨by rfl, fun w' hw' => by clear hw'; go_simp⟩) hH ?_
    simp only [Act.put]
    refine wpAnyH_take (i := 3) (v := .bool false) rfl (by kernel_rfl) (by kernel_rfl) (by kernel_rfl) (fun _ _ _ h => h) (Or.inl ⟨by rfl, fun w' hw' => by clear hw'; go_simp⟩) hH ?_
    simp only [Act.put]
    refine wpAnyH_take (i := 4) (v := .int .i64 e) rfl (by kernel_rfl) (by kernel_rfl) (by kernel_rfl) (fun _ _ _ h => h) (Or.inl ⟨by rfl, fun w' hw' => by clear hw'; go_simp⟩) hH ?_
    simp only [Act.put]
    refine wpAnyH_take (i := 5) (v := .int .i64 e) rfl (by kernel_rfl) (by kernel_rfl) (by kernel_rfl) (fun _ _ _ h => h) (Or.inl ⟨by rfl, fun w' hw' => by clear hw'; go_simp⟩) hH ?_
    simp only [Act.put]
    refine wpAnyH_take (i := 6) (v := .bool false) rfl (by kernel_rfl) (by kernel_rfl) (by kernel_rfl) (fun _ _ _ h => h) (Or.inl ⟨by rfl, fun w' hw' => by clear hw'; go_simp⟩) hH ?_
    simp only [Act.put]
    refine wpAnyH_take (i := 7) (v := .bool false) rfl (by kernel_rfl) (by kernel_rfl) (by kernel_rfl) (fun _ _ _ h => h) (Or.inl ⟨by rfl, fun w' hw' => by clear hw'; go_simp⟩) hH ?_
    simp only [Act.put]
    refine wpAnyH_take (i := 8) (v := .bool false) rfl (by kernel_rfl) (by kernel_rfl) (by kernel_rfl) (fun _ _ _ h => h) (Or.inl ⟨by rfl, fun w' hw' => by clear hw'; go_simp⟩) hH ?_
    simp only [Act.put]
    refine wpAnyH_take (i := 9) (v := .agg cs.toArray) rfl (by kernel_rfl) (by kernel_rfl) (by kernel_rfl) (fun _ _ _ h => h) ?_ hH ?_
    · refine yieldsIf_load_mid ?_ 24 (.tmp 2) ?_ w.heap.size 0 ?_ _ _ (fun _ hw => hw) Tryd.underlying24 rfl (by simpa using hsz2)
      all_goals kernel_rfl
    simp only [Act.put]
    refine wpAnyH_take (i := 11) (v := .agg cs.toArray) rfl (by kernel_rfl) (by kernel_rfl) (by kernel_rfl) (fun _ _ _ h => h) ?_ hH ?_
    · refine yieldsIf_load_mid ?_ 24 (.tmp 2) ?_ w.heap.size 0 ?_ _ _ (fun _ hw => hw) Tryd.underlying24 rfl (by simpa using hsz2)
      all_goals kernel_rfl
    simp only [Act.put]
    refine wpAnyH_ready (rs := [10]) (by kernel_rfl) (by simp) ?_
    refine AllReadyH.cons rfl (fun K hK => ?_) AllReadyH.nil
    · clear hH
      go_simp
      go_at_call 10
      refine (HR.out _ (HF.out.below HBB.out.drew HF.out.1)).mono ?_
      rintro e4 w4 ⟨rfl, hb4x⟩
      have hb4 : Below w3.heap.size w3 w4 := ((Below.refl _ _).drew).trans hb4x
      have hr4 := HRO.out.below hb4 HRO.out.lt
      go_wp2_with fail
      refine hK.out _ _ hr4.range (fun hH => ?_)
      clear hK K hH
      try simp only [Act.put]
      refine wpAnyH_ready (rs := [12]) (by kernel_rfl) (by simp) ?_
      refine AllReadyH.cons rfl (fun K hK => ?_) AllReadyH.nil
      go_simp
      go_at_call 11
      refine (HS.out _).mono ?_
      rintro e5 w5 ⟨rfl, hb5⟩
      have hr5 := hr4.below hb5 hr4.lt
      go_wp2_with fail
      refine hK.out _ _ hr5.range (fun hH => ?_)
      clear hK K
      try simp only [Act.put]
      refine wpAnyH_ready (rs := [13]) (by kernel_rfl) (by simp) ?_
      refine AllReadyH.cons rfl (fun K hK => ?_) AllReadyH.nil
      go_simp
      refine hK.out _ _ hH (fun hH => ?_)
      clear hK K
      try simp only [Act.put]
      refine wpAnyH_ready (rs := [14]) (by kernel_rfl) (by simp) ?_
      refine AllReadyH.cons rfl (fun K hK => ?_) AllReadyH.nil
      go_simp
      refine hK.out _ _ hH (fun hH => ?_)
      clear hK K
      try simp only [Act.put]
      refine wpAnyH_done (by kernel_rfl) ?_ _
      go_wp2_with fail
      go_meet
      case rel => exact ⟨rfl, (HBB.out.trans (hb4.mono HBB.out.size)).trans (hb5.mono (Nat.le_trans HBB.out.size hb4.size)), hr5⟩
  case rest =>
  obtain ⟨rfl, hbb, -⟩ := hcut
  rw [HTE.out]
  go_wp2_with fail
  go_ret
  exact ⟨rfl, hbb⟩

theorem packs_any (h : Hd) (hh : h.fits) (body : ByteArray) (w : World) (hf : Fd w) : Calls Tryd.prog 3 #[h.val, .string body] w (Yes w) := by
  obtain ⟨T, e, e1, P1⟩ := pack_of h body
  have HQ : Hid (∀ W : World, Calls Tryd.prog 9 #[.agg h.cells, .string body] W fun x W' => x = .returned (.tuple #[.string T, .int .i64 e]) ∧ Below W.heap.size W W') := hid fun W => by
    have := rpack_any h hh body W
    rw [e1] at this
    unfold SN at this
    rw [mk_sb] at this
    exact this
  have HR : Hid (∀ W : World, Fd W → Calls Tryd.prog 10 #[.agg h.cells] W (VE W (.bool (decide (Fits h.nums))))) := hid fun W hW => right_any h W hW
  have HS : Hid (∀ W : World, Calls Tryd.prog 11 #[.agg h.cells] W (VE W (.bool (decide (Fits h.nums))))) := hid fun W => by
    have := rright_any h W
    rw [right_fits h hh] at this
    exact this
  have hC := hcells_size h
  have hcs : h.cells = h.cells.toList.toArray := by simp
  have hE := fun W => eql_head h h W
  show Calls Tryd.prog 3 #[.agg h.cells, .string body] w (Yes w)
  cases la : decide (5000 < (body.size : Int)) with
  | true => exact packs_long h.cells body w hf la
  | false =>
    by_cases he : e = 0
    · subst he
      have hl := sb_len T
      have hlb := sb_len body
      obtain ⟨_, p2, p3⟩ := packS_ok e1
      have hT : T.size = 128 + body.size := by rw [← hl, p3, List.length_append, headB_len, hlb]
      have HU := unp_of T _ (unpack_pack hh e1) (by omega)
      have HU2 : Hid (∀ W : World, Fd W → Calls Tryd.prog 12 #[.string T] W fun x W' => x = .returned (.tuple #[h.val, .string body, .int .i64 0]) ∧ Below W.heap.size W W') := hid fun W hW => by
        have := HU.out W hW
        simp only [mk_sb] at this
        exact this
      simp only [decide_true] at hE
      generalize h.cells.toList = cs at hcs
      rw [hcs] at P1 HQ HR HS hC hE ⊢
      exact packs_ok cs body T 0 _ h w hf hcs hC (hid P1) HQ HR HS HU2 hE la rfl hT (by omega)
    · have hT : T = ⟨#[]⟩ := by rw [← mk_sb T, packS_err e1 he]
      generalize h.cells.toList = cs at hcs
      rw [hcs] at P1 HQ HR HS hC ⊢
      exact packs_err cs body T e _ w hf hC (hid P1) HQ HR HS la (by simpa using he) hT
end Go.Proofs.YtfkhfajkhijbpaaDoor
