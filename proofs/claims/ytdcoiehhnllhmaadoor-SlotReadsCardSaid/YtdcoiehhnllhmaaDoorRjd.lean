/-
  The walk of the document's Judge.
-/
import Derived.Test.YtdcoiehhnllhmaaDoorRlk
namespace Go.Proofs.YtdcoiehhnllhmaaDoor
open Go.RowKit
set_option maxRecDepth 10000

set_option maxHeartbeats 2000000 in
theorem rjudge_1 (p h : ByteArray) (n : Int) (e : En) (s t : St) (bk br : Bool) (w : World) (hon : (s.opn != n) = false) (heq : Hid (decide (t = s) = true))
    (HE : Hid (∀ W : World, Calls Tryd.prog 22 #[.string p] W (LQ W #[.int .i64 e.view, .int .i64 e.opn, .int .i64 e.under, .int .u64 (e.parent : Int), .int .i64 e.client, .int .i64 e.session, .int .i64 e.request, .int .i64 e.oper, .string e.body] true br)))
    (HS : Hid (∀ W : World, Calls Tryd.prog 23 #[.string h] W (LQ W #[.int .i64 s.opn, .int .i64 s.view, .int .i64 s.under, .int .u64 (s.parent : Int), .int .u64 (s.sum : Int)] true true)))
    (HT : Hid (∀ W : World, Calls Tryd.prog 17 #[.agg #[.int .i64 e.view, .int .i64 e.opn, .int .i64 e.under, .int .u64 (e.parent : Int), .int .i64 e.client, .int .i64 e.session, .int .i64 e.request, .int .i64 e.oper, .string e.body]] W (VE W (.agg #[.int .i64 t.opn, .int .i64 t.view, .int .i64 t.under, .int .u64 (t.parent : Int), .int .u64 (t.sum : Int)])))) :
    Calls Tryd.prog 25 #[.string p, .string h, .int .i64 n] w (VE w (⟨1, s, e⟩ : It).val) := by
  have qq : True := (fun _ => trivial) bk
  clear qq
  have HZE := hid esize
  have HZS := hid stsize
  have HZI := hid isize
  go_enter Tryd.func25, Tryd.ntmps25
  go_wp2_with (first
    | (go_at_call 22; refine (HE.out _).mono ?_; rintro x w1 ⟨rfl, hb1⟩; have hri := (Row.new w 41 #[.int .i64 0, .int .i64 0, .int .i64 0, .int .i64 0, .int .u64 0, .int .u64 0, .int .i64 0, .int .i64 0, .int .i64 0, .int .u64 0, .int .i64 0, .int .i64 0, .int .i64 0, .int .i64 0, .string ⟨#[]⟩]).below hb1 (by simp); have hbe := ((Below.refl w.heap.size w).alloc (Nat.le_refl _) (.cells #[.int .i64 0, .int .i64 0, .int .i64 0, .int .i64 0, .int .u64 0, .int .u64 0, .int .i64 0, .int .i64 0, .int .i64 0, .int .u64 0, .int .i64 0, .int .i64 0, .int .i64 0, .int .i64 0, .string ⟨#[]⟩] 41)).trans (hb1.mono (by simp)))
    | ((with_reducible show wpList _ _ _ ({ dst := none, op := .store _ (.tmp 7) (.tmp 16), type := _, pos := _, after := _, guard := _ } :: _) _ _); refine wpl_store_st rfl (.tmp 7) (.tmp 16) rfl (n := 9) HZE.out w1.heap.size #[.int .i64 0, .int .i64 0, .int .i64 0, .int .u64 0, .int .i64 0, .int .i64 0, .int .i64 0, .int .i64 0, .string ⟨#[]⟩] #[.int .i64 e.view, .int .i64 e.opn, .int .i64 e.under, .int .u64 (e.parent : Int), .int .i64 e.client, .int .i64 e.session, .int .i64 e.request, .int .i64 e.oper, .string e.body] rfl rfl (Row.new _ _ _) ?_ (hid rfl) (hid rfl) (hid (ecells_one e)); intro w2 hre HB2; replace hri := (hri.alloc (.cells #[.int .i64 0, .int .i64 0, .int .i64 0, .int .u64 0, .int .i64 0, .int .i64 0, .int .i64 0, .int .i64 0, .string ⟨#[]⟩] 24)).grown HB2 (by have := hri.lt; intro e; have := Option.some.inj e; omega); replace hbe := (hbe.alloc hbe.size (.cells #[.int .i64 0, .int .i64 0, .int .i64 0, .int .u64 0, .int .i64 0, .int .i64 0, .int .i64 0, .int .i64 0, .string ⟨#[]⟩] 24)).trans (below_grown HB2 hbe.size (by have := hbe.size; simp; omega)))
    | (go_at_call 23; refine (HS.out _).mono ?_; rintro x w3 ⟨rfl, hb3⟩; replace hri := hri.below hb3 hri.lt; replace hre := hre.below hb3 hre.lt; replace hbe := hbe.trans (hb3.mono hbe.size))
    | ((with_reducible show wpList _ _ _ ({ dst := none, op := .store _ (.tmp 10) (.tmp 22), type := _, pos := _, after := _, guard := _ } :: _) _ _); refine wpl_store_st rfl (.tmp 10) (.tmp 22) rfl (n := 5) HZS.out w3.heap.size #[.int .i64 0, .int .i64 0, .int .i64 0, .int .u64 0, .int .u64 0] #[.int .i64 s.opn, .int .i64 s.view, .int .i64 s.under, .int .u64 (s.parent : Int), .int .u64 (s.sum : Int)] rfl rfl (Row.new _ _ _) ?_ (hid rfl) (hid rfl) (hid (stcells_one s)); intro w4 hrs HB4; replace hri := (hri.alloc (.cells #[.int .i64 0, .int .i64 0, .int .i64 0, .int .u64 0, .int .u64 0] 26)).grown HB4 (by have := hri.lt; intro e; have := Option.some.inj e; omega); replace hre := (hre.alloc (.cells #[.int .i64 0, .int .i64 0, .int .i64 0, .int .u64 0, .int .u64 0] 26)).grown HB4 (by have := hre.lt; intro e; have := Option.some.inj e; omega); replace hbe := (hbe.alloc hbe.size (.cells #[.int .i64 0, .int .i64 0, .int .i64 0, .int .u64 0, .int .u64 0] 26)).trans (below_grown HB4 hbe.size (by have := hbe.size; simp; omega)); have he1 := hre.at_ 1 _ rfl; have hs0 := hrs.at_ 0 _ rfl))
  have HBE := hid hbe
  have HRI := hid hri
  have HEF := hid hre
  have HSF := hid hrs
  clear hbe hri hre hrs he1 hs0
  refine wp_region_held_drew (S := fun W => Below w4.heap.size w4 W) (by kernel_rfl) ((Below.refl _ _).drew) (fun hH => ?_)
  refine wpAnyH_take (i := 0) (v := .bool true) rfl (by kernel_rfl) (by kernel_rfl) (by kernel_rfl) (fun _ _ _ h => h) (Or.inl ⟨by rfl, fun w' hw' => by clear hw'; go_simp⟩) hH ?_
  simp only [Act.put]
  refine wpAnyH_take (i := 1) (v := .bool true) rfl (by kernel_rfl) (by kernel_rfl) (by kernel_rfl) (fun _ _ _ h => h) (Or.inl ⟨by rfl, fun w' hw' => by clear hw'; go_simp⟩) hH ?_
  simp only [Act.put]
  refine wpAnyH_take (i := 2) (v := .agg #[.int .i64 e.view, .int .i64 e.opn, .int .i64 e.under, .int .u64 (e.parent : Int), .int .i64 e.client, .int .i64 e.session, .int .i64 e.request, .int .i64 e.oper, .string e.body]) rfl (by kernel_rfl) (by kernel_rfl) (by kernel_rfl) (fun _ _ _ h => h) ?_ hH ?_
  · refine yieldsIf_load_mid ?_ 24 (.tmp 7) ?_ w1.heap.size 0 ?_ (Array.toList #[.int .i64 e.view, .int .i64 e.opn, .int .i64 e.under, .int .u64 (e.parent : Int), .int .i64 e.client, .int .i64 e.session, .int .i64 e.request, .int .i64 e.oper, .string e.body]) _ (fun W hW => Row.range (HEF.out.below hW HEF.out.lt)) Tryd.underlying24 rfl (by exact HZE.out)
    all_goals kernel_rfl
  simp only [Act.put]
  refine wpAnyH_take (i := 4) (v := .agg #[.int .i64 s.opn, .int .i64 s.view, .int .i64 s.under, .int .u64 (s.parent : Int), .int .u64 (s.sum : Int)]) rfl (by kernel_rfl) (by kernel_rfl) (by kernel_rfl) (fun _ _ _ h => h) ?_ hH ?_
  · refine yieldsIf_load_mid ?_ 26 (.tmp 10) ?_ w3.heap.size 0 ?_ (Array.toList #[.int .i64 s.opn, .int .i64 s.view, .int .i64 s.under, .int .u64 (s.parent : Int), .int .u64 (s.sum : Int)]) _ (fun W hW => Row.range (HSF.out.below hW HSF.out.lt)) Tryd.underlying26 rfl (by exact HZS.out)
    all_goals kernel_rfl
  simp only [Act.put]
  refine wpAnyH_ready (rs := [3]) (by kernel_rfl) (by simp) ?_
  refine AllReadyH.cons rfl (fun K hK => ?_) AllReadyH.nil
  rw [if_pos (by kernel_rfl)]
  go_simp
  go_at_call 17
  refine (HT.out _).mono ?_
  rintro x w5 ⟨rfl, hb5⟩
  go_wp2_with fail
  refine hK.out _ _ (hH.trans (hb5.mono hH.size)) (fun hH => ?_)
  clear hK K
  try simp only [Act.put]
  refine wpAnyH_take (i := 5) (v := .bool true) rfl (by kernel_rfl) (by kernel_rfl) (by kernel_rfl) (fun _ _ _ h => h) (yields_eqs (by kernel_rfl) t s true heq (.tmp 38) (.tmp 39) _ rfl (by kernel_rfl) (by kernel_rfl)) hH ?_
  simp only [Act.put]
  refine wpAnyH_take (i := 6) (v := .bool true) rfl (by kernel_rfl) (by kernel_rfl) (by kernel_rfl) (fun _ _ _ h => h) (Or.inl ⟨by kernel_rfl, fun w' _ => by kernel_rfl⟩) hH ?_
  simp only [Act.put]
  refine wpAnyH_done (by kernel_rfl) ?_ _
  try simp only [Act.put]
  have hbe := HBE.out.trans (hH.mono HBE.out.size)
  have hri := HRI.out.below hH HRI.out.lt
  have hre := HEF.out.below hH HEF.out.lt
  have hrs := HSF.out.below hH HSF.out.lt
  clear hH
  go_wp2_with (first
    | ((with_reducible show wpList _ _ _ ({ dst := some 42, op := _, type := _, pos := _, after := _, guard := _ } :: _) _ _); refine wpList_load_row rfl 26 (.tmp 10) rfl w3.heap.size rfl 26 #[.int .i64 s.opn, .int .i64 s.view, .int .i64 s.under, .int .u64 (s.parent : Int), .int .u64 (s.sum : Int)] (0, 0) _ (Row.arr (cs := #[.int .i64 s.opn, .int .i64 s.view, .int .i64 s.under, .int .u64 (s.parent : Int), .int .u64 (s.sum : Int)]) hrs) Tryd.underlying26 rfl HZS.out ?_)
    | ((with_reducible show wpList _ _ _ ({ dst := some 43, op := _, type := _, pos := _, after := _, guard := _ } :: _) _ _); refine wpList_load_row rfl 24 (.tmp 7) rfl w1.heap.size rfl 24 #[.int .i64 e.view, .int .i64 e.opn, .int .i64 e.under, .int .u64 (e.parent : Int), .int .i64 e.client, .int .i64 e.session, .int .i64 e.request, .int .i64 e.oper, .string e.body] (0, 0) _ (Row.arr (cs := #[.int .i64 e.view, .int .i64 e.opn, .int .i64 e.under, .int .u64 (e.parent : Int), .int .i64 e.client, .int .i64 e.session, .int .i64 e.request, .int .i64 e.oper, .string e.body]) hre) Tryd.underlying24 rfl HZE.out ?_)
    | ((with_reducible show wpList _ _ _ ({ dst := some 45, op := _, type := _, pos := _, after := _, guard := _ } :: _) _ _); refine wpList_load_row rfl 26 (.tmp 10) rfl w3.heap.size rfl 26 #[.int .i64 s.opn, .int .i64 s.view, .int .i64 s.under, .int .u64 (s.parent : Int), .int .u64 (s.sum : Int)] (0, 0) _ (Row.arr (cs := #[.int .i64 s.opn, .int .i64 s.view, .int .i64 s.under, .int .u64 (s.parent : Int), .int .u64 (s.sum : Int)]) hrs) Tryd.underlying26 rfl HZS.out ?_)
    | ((with_reducible show wpList _ _ _ ({ dst := none, op := .store _ (.tmp 6) (.tmp 44), type := _, pos := _, after := _, guard := _ } :: _) _ _); refine wpl_store_st rfl (.tmp 6) (.tmp 44) rfl (n := 15) HZI.out w.heap.size #[.int .i64 0, .int .i64 0, .int .i64 0, .int .i64 0, .int .u64 0, .int .u64 0, .int .i64 0, .int .i64 0, .int .i64 0, .int .u64 0, .int .i64 0, .int .i64 0, .int .i64 0, .int .i64 0, .string ⟨#[]⟩] #[.int .i64 1, .int .i64 s.opn, .int .i64 s.view, .int .i64 s.under, .int .u64 (s.parent : Int), .int .u64 (s.sum : Int), .int .i64 e.view, .int .i64 e.opn, .int .i64 e.under, .int .u64 (e.parent : Int), .int .i64 e.client, .int .i64 e.session, .int .i64 e.request, .int .i64 e.oper, .string e.body] rfl rfl hri ?_ (hid rfl) (hid rfl) (hid (by simp [Value.oneCell'])); intro w7 hr7 HB7))
  exact bodyPost_ret (v := .agg #[.int .i64 1, .int .i64 s.opn, .int .i64 s.view, .int .i64 s.under, .int .u64 (s.parent : Int), .int .u64 (s.sum : Int), .int .i64 e.view, .int .i64 e.opn, .int .i64 e.under, .int .u64 (e.parent : Int), .int .i64 e.client, .int .i64 e.session, .int .i64 e.request, .int .i64 e.oper, .string e.body]) (results_cell_row rfl _ _ w.heap.size 41 #[.int .i64 1, .int .i64 s.opn, .int .i64 s.view, .int .i64 s.under, .int .u64 (s.parent : Int), .int .u64 (s.sum : Int), .int .i64 e.view, .int .i64 e.opn, .int .i64 e.under, .int .u64 (e.parent : Int), .int .i64 e.client, .int .i64 e.session, .int .i64 e.request, .int .i64 e.oper, .string e.body] (0, 0) _ rfl (Row.arr (cs := #[.int .i64 1, .int .i64 s.opn, .int .i64 s.view, .int .i64 s.under, .int .u64 (s.parent : Int), .int .u64 (s.sum : Int), .int .i64 e.view, .int .i64 e.opn, .int .i64 e.under, .int .u64 (e.parent : Int), .int .i64 e.client, .int .i64 e.session, .int .i64 e.request, .int .i64 e.oper, .string e.body]) hr7) Tryd.underlying41 rfl HZI.out) rfl ⟨rfl, hbe.trans (below_grown HB7 (Nat.le_refl _) hbe.size)⟩
set_option maxHeartbeats 2000000 in
theorem rjudge_2 (p h : ByteArray) (n : Int) (e : En) (s t : St) (bk br : Bool) (w : World) (hon : (s.opn != n) = false) (heq : Hid (decide (t = s) = false))
    (HE : Hid (∀ W : World, Calls Tryd.prog 22 #[.string p] W (LQ W #[.int .i64 e.view, .int .i64 e.opn, .int .i64 e.under, .int .u64 (e.parent : Int), .int .i64 e.client, .int .i64 e.session, .int .i64 e.request, .int .i64 e.oper, .string e.body] true br)))
    (HS : Hid (∀ W : World, Calls Tryd.prog 23 #[.string h] W (LQ W #[.int .i64 s.opn, .int .i64 s.view, .int .i64 s.under, .int .u64 (s.parent : Int), .int .u64 (s.sum : Int)] true true)))
    (HT : Hid (∀ W : World, Calls Tryd.prog 17 #[.agg #[.int .i64 e.view, .int .i64 e.opn, .int .i64 e.under, .int .u64 (e.parent : Int), .int .i64 e.client, .int .i64 e.session, .int .i64 e.request, .int .i64 e.oper, .string e.body]] W (VE W (.agg #[.int .i64 t.opn, .int .i64 t.view, .int .i64 t.under, .int .u64 (t.parent : Int), .int .u64 (t.sum : Int)])))) :
    Calls Tryd.prog 25 #[.string p, .string h, .int .i64 n] w (VE w (⟨2, s, en0⟩ : It).val) := by
  have qq : True := (fun _ => trivial) bk
  clear qq
  have HZE := hid esize
  have HZS := hid stsize
  have HZI := hid isize
  go_enter Tryd.func25, Tryd.ntmps25
  go_wp2_with (first
    | (go_at_call 22; refine (HE.out _).mono ?_; rintro x w1 ⟨rfl, hb1⟩; have hri := (Row.new w 41 #[.int .i64 0, .int .i64 0, .int .i64 0, .int .i64 0, .int .u64 0, .int .u64 0, .int .i64 0, .int .i64 0, .int .i64 0, .int .u64 0, .int .i64 0, .int .i64 0, .int .i64 0, .int .i64 0, .string ⟨#[]⟩]).below hb1 (by simp); have hbe := ((Below.refl w.heap.size w).alloc (Nat.le_refl _) (.cells #[.int .i64 0, .int .i64 0, .int .i64 0, .int .i64 0, .int .u64 0, .int .u64 0, .int .i64 0, .int .i64 0, .int .i64 0, .int .u64 0, .int .i64 0, .int .i64 0, .int .i64 0, .int .i64 0, .string ⟨#[]⟩] 41)).trans (hb1.mono (by simp)))
    | ((with_reducible show wpList _ _ _ ({ dst := none, op := .store _ (.tmp 7) (.tmp 16), type := _, pos := _, after := _, guard := _ } :: _) _ _); refine wpl_store_st rfl (.tmp 7) (.tmp 16) rfl (n := 9) HZE.out w1.heap.size #[.int .i64 0, .int .i64 0, .int .i64 0, .int .u64 0, .int .i64 0, .int .i64 0, .int .i64 0, .int .i64 0, .string ⟨#[]⟩] #[.int .i64 e.view, .int .i64 e.opn, .int .i64 e.under, .int .u64 (e.parent : Int), .int .i64 e.client, .int .i64 e.session, .int .i64 e.request, .int .i64 e.oper, .string e.body] rfl rfl (Row.new _ _ _) ?_ (hid rfl) (hid rfl) (hid (ecells_one e)); intro w2 hre HB2; replace hri := (hri.alloc (.cells #[.int .i64 0, .int .i64 0, .int .i64 0, .int .u64 0, .int .i64 0, .int .i64 0, .int .i64 0, .int .i64 0, .string ⟨#[]⟩] 24)).grown HB2 (by have := hri.lt; intro e; have := Option.some.inj e; omega); replace hbe := (hbe.alloc hbe.size (.cells #[.int .i64 0, .int .i64 0, .int .i64 0, .int .u64 0, .int .i64 0, .int .i64 0, .int .i64 0, .int .i64 0, .string ⟨#[]⟩] 24)).trans (below_grown HB2 hbe.size (by have := hbe.size; simp; omega)))
    | (go_at_call 23; refine (HS.out _).mono ?_; rintro x w3 ⟨rfl, hb3⟩; replace hri := hri.below hb3 hri.lt; replace hre := hre.below hb3 hre.lt; replace hbe := hbe.trans (hb3.mono hbe.size))
    | ((with_reducible show wpList _ _ _ ({ dst := none, op := .store _ (.tmp 10) (.tmp 22), type := _, pos := _, after := _, guard := _ } :: _) _ _); refine wpl_store_st rfl (.tmp 10) (.tmp 22) rfl (n := 5) HZS.out w3.heap.size #[.int .i64 0, .int .i64 0, .int .i64 0, .int .u64 0, .int .u64 0] #[.int .i64 s.opn, .int .i64 s.view, .int .i64 s.under, .int .u64 (s.parent : Int), .int .u64 (s.sum : Int)] rfl rfl (Row.new _ _ _) ?_ (hid rfl) (hid rfl) (hid (stcells_one s)); intro w4 hrs HB4; replace hri := (hri.alloc (.cells #[.int .i64 0, .int .i64 0, .int .i64 0, .int .u64 0, .int .u64 0] 26)).grown HB4 (by have := hri.lt; intro e; have := Option.some.inj e; omega); replace hre := (hre.alloc (.cells #[.int .i64 0, .int .i64 0, .int .i64 0, .int .u64 0, .int .u64 0] 26)).grown HB4 (by have := hre.lt; intro e; have := Option.some.inj e; omega); replace hbe := (hbe.alloc hbe.size (.cells #[.int .i64 0, .int .i64 0, .int .i64 0, .int .u64 0, .int .u64 0] 26)).trans (below_grown HB4 hbe.size (by have := hbe.size; simp; omega)); have he1 := hre.at_ 1 _ rfl; have hs0 := hrs.at_ 0 _ rfl))
  have HBE := hid hbe
  have HRI := hid hri
  have HEF := hid hre
  have HSF := hid hrs
  clear hbe hri hre hrs he1 hs0
  refine wp_region_held_drew (S := fun W => Below w4.heap.size w4 W) (by kernel_rfl) ((Below.refl _ _).drew) (fun hH => ?_)
  refine wpAnyH_take (i := 0) (v := .bool true) rfl (by kernel_rfl) (by kernel_rfl) (by kernel_rfl) (fun _ _ _ h => h) (Or.inl ⟨by rfl, fun w' hw' => by clear hw'; go_simp⟩) hH ?_
  simp only [Act.put]
  refine wpAnyH_take (i := 1) (v := .bool true) rfl (by kernel_rfl) (by kernel_rfl) (by kernel_rfl) (fun _ _ _ h => h) (Or.inl ⟨by rfl, fun w' hw' => by clear hw'; go_simp⟩) hH ?_
  simp only [Act.put]
  refine wpAnyH_take (i := 2) (v := .agg #[.int .i64 e.view, .int .i64 e.opn, .int .i64 e.under, .int .u64 (e.parent : Int), .int .i64 e.client, .int .i64 e.session, .int .i64 e.request, .int .i64 e.oper, .string e.body]) rfl (by kernel_rfl) (by kernel_rfl) (by kernel_rfl) (fun _ _ _ h => h) ?_ hH ?_
  · refine yieldsIf_load_mid ?_ 24 (.tmp 7) ?_ w1.heap.size 0 ?_ (Array.toList #[.int .i64 e.view, .int .i64 e.opn, .int .i64 e.under, .int .u64 (e.parent : Int), .int .i64 e.client, .int .i64 e.session, .int .i64 e.request, .int .i64 e.oper, .string e.body]) _ (fun W hW => Row.range (HEF.out.below hW HEF.out.lt)) Tryd.underlying24 rfl (by exact HZE.out)
    all_goals kernel_rfl
  simp only [Act.put]
  refine wpAnyH_take (i := 4) (v := .agg #[.int .i64 s.opn, .int .i64 s.view, .int .i64 s.under, .int .u64 (s.parent : Int), .int .u64 (s.sum : Int)]) rfl (by kernel_rfl) (by kernel_rfl) (by kernel_rfl) (fun _ _ _ h => h) ?_ hH ?_
  · refine yieldsIf_load_mid ?_ 26 (.tmp 10) ?_ w3.heap.size 0 ?_ (Array.toList #[.int .i64 s.opn, .int .i64 s.view, .int .i64 s.under, .int .u64 (s.parent : Int), .int .u64 (s.sum : Int)]) _ (fun W hW => Row.range (HSF.out.below hW HSF.out.lt)) Tryd.underlying26 rfl (by exact HZS.out)
    all_goals kernel_rfl
  simp only [Act.put]
  refine wpAnyH_ready (rs := [3]) (by kernel_rfl) (by simp) ?_
  refine AllReadyH.cons rfl (fun K hK => ?_) AllReadyH.nil
  rw [if_pos (by kernel_rfl)]
  go_simp
  go_at_call 17
  refine (HT.out _).mono ?_
  rintro x w5 ⟨rfl, hb5⟩
  go_wp2_with fail
  refine hK.out _ _ (hH.trans (hb5.mono hH.size)) (fun hH => ?_)
  clear hK K
  try simp only [Act.put]
  refine wpAnyH_take (i := 5) (v := .bool false) rfl (by kernel_rfl) (by kernel_rfl) (by kernel_rfl) (fun _ _ _ h => h) (yields_eqs (by kernel_rfl) t s false heq (.tmp 38) (.tmp 39) _ rfl (by kernel_rfl) (by kernel_rfl)) hH ?_
  simp only [Act.put]
  refine wpAnyH_take (i := 6) (v := .bool false) rfl (by kernel_rfl) (by kernel_rfl) (by kernel_rfl) (fun _ _ _ h => h) (Or.inl ⟨by kernel_rfl, fun w' _ => by kernel_rfl⟩) hH ?_
  simp only [Act.put]
  refine wpAnyH_done (by kernel_rfl) ?_ _
  try simp only [Act.put]
  have hbe := HBE.out.trans (hH.mono HBE.out.size)
  have hri := HRI.out.below hH HRI.out.lt
  have hre := HEF.out.below hH HEF.out.lt
  have hrs := HSF.out.below hH HSF.out.lt
  clear hH
  go_wp2_with (first
    | ((with_reducible show wpList _ _ _ ({ dst := some 42, op := _, type := _, pos := _, after := _, guard := _ } :: _) _ _); refine wpList_load_row rfl 26 (.tmp 10) rfl w3.heap.size rfl 26 #[.int .i64 s.opn, .int .i64 s.view, .int .i64 s.under, .int .u64 (s.parent : Int), .int .u64 (s.sum : Int)] (0, 0) _ (Row.arr (cs := #[.int .i64 s.opn, .int .i64 s.view, .int .i64 s.under, .int .u64 (s.parent : Int), .int .u64 (s.sum : Int)]) hrs) Tryd.underlying26 rfl HZS.out ?_)
    | ((with_reducible show wpList _ _ _ ({ dst := some 43, op := _, type := _, pos := _, after := _, guard := _ } :: _) _ _); refine wpList_load_row rfl 24 (.tmp 7) rfl w1.heap.size rfl 24 #[.int .i64 e.view, .int .i64 e.opn, .int .i64 e.under, .int .u64 (e.parent : Int), .int .i64 e.client, .int .i64 e.session, .int .i64 e.request, .int .i64 e.oper, .string e.body] (0, 0) _ (Row.arr (cs := #[.int .i64 e.view, .int .i64 e.opn, .int .i64 e.under, .int .u64 (e.parent : Int), .int .i64 e.client, .int .i64 e.session, .int .i64 e.request, .int .i64 e.oper, .string e.body]) hre) Tryd.underlying24 rfl HZE.out ?_)
    | ((with_reducible show wpList _ _ _ ({ dst := some 45, op := _, type := _, pos := _, after := _, guard := _ } :: _) _ _); refine wpList_load_row rfl 26 (.tmp 10) rfl w3.heap.size rfl 26 #[.int .i64 s.opn, .int .i64 s.view, .int .i64 s.under, .int .u64 (s.parent : Int), .int .u64 (s.sum : Int)] (0, 0) _ (Row.arr (cs := #[.int .i64 s.opn, .int .i64 s.view, .int .i64 s.under, .int .u64 (s.parent : Int), .int .u64 (s.sum : Int)]) hrs) Tryd.underlying26 rfl HZS.out ?_)
    | ((with_reducible show wpList _ _ _ ({ dst := none, op := .store _ (.tmp 6) (.tmp 46), type := _, pos := _, after := _, guard := _ } :: _) _ _); refine wpl_store_st rfl (.tmp 6) (.tmp 46) rfl (n := 15) HZI.out w.heap.size #[.int .i64 0, .int .i64 0, .int .i64 0, .int .i64 0, .int .u64 0, .int .u64 0, .int .i64 0, .int .i64 0, .int .i64 0, .int .u64 0, .int .i64 0, .int .i64 0, .int .i64 0, .int .i64 0, .string ⟨#[]⟩] #[.int .i64 2, .int .i64 s.opn, .int .i64 s.view, .int .i64 s.under, .int .u64 (s.parent : Int), .int .u64 (s.sum : Int), .int .i64 0, .int .i64 0, .int .i64 0, .int .u64 0, .int .i64 0, .int .i64 0, .int .i64 0, .int .i64 0, .string ⟨#[]⟩] rfl rfl hri ?_ (hid rfl) (hid rfl) (hid (by simp [Value.oneCell'])); intro w7 hr7 HB7))
  exact bodyPost_ret (v := .agg #[.int .i64 2, .int .i64 s.opn, .int .i64 s.view, .int .i64 s.under, .int .u64 (s.parent : Int), .int .u64 (s.sum : Int), .int .i64 0, .int .i64 0, .int .i64 0, .int .u64 0, .int .i64 0, .int .i64 0, .int .i64 0, .int .i64 0, .string ⟨#[]⟩]) (results_cell_row rfl _ _ w.heap.size 41 #[.int .i64 2, .int .i64 s.opn, .int .i64 s.view, .int .i64 s.under, .int .u64 (s.parent : Int), .int .u64 (s.sum : Int), .int .i64 0, .int .i64 0, .int .i64 0, .int .u64 0, .int .i64 0, .int .i64 0, .int .i64 0, .int .i64 0, .string ⟨#[]⟩] (0, 0) _ rfl (Row.arr (cs := #[.int .i64 2, .int .i64 s.opn, .int .i64 s.view, .int .i64 s.under, .int .u64 (s.parent : Int), .int .u64 (s.sum : Int), .int .i64 0, .int .i64 0, .int .i64 0, .int .u64 0, .int .i64 0, .int .i64 0, .int .i64 0, .int .i64 0, .string ⟨#[]⟩]) hr7) Tryd.underlying41 rfl HZI.out) rfl ⟨rfl, hbe.trans (below_grown HB7 (Nat.le_refl _) hbe.size)⟩
set_option maxHeartbeats 2000000 in
theorem rjudge_3 (p h : ByteArray) (n : Int) (e : En) (s t : St) (bk br : Bool) (w : World) (hon : (s.opn != n) = false)
    (HE : Hid (∀ W : World, Calls Tryd.prog 22 #[.string p] W (LQ W #[.int .i64 e.view, .int .i64 e.opn, .int .i64 e.under, .int .u64 (e.parent : Int), .int .i64 e.client, .int .i64 e.session, .int .i64 e.request, .int .i64 e.oper, .string e.body] false br)))
    (HS : Hid (∀ W : World, Calls Tryd.prog 23 #[.string h] W (LQ W #[.int .i64 s.opn, .int .i64 s.view, .int .i64 s.under, .int .u64 (s.parent : Int), .int .u64 (s.sum : Int)] true true)))
    (HT : Hid (∀ W : World, Calls Tryd.prog 17 #[.agg #[.int .i64 e.view, .int .i64 e.opn, .int .i64 e.under, .int .u64 (e.parent : Int), .int .i64 e.client, .int .i64 e.session, .int .i64 e.request, .int .i64 e.oper, .string e.body]] W (VE W (.agg #[.int .i64 t.opn, .int .i64 t.view, .int .i64 t.under, .int .u64 (t.parent : Int), .int .u64 (t.sum : Int)])))) :
    Calls Tryd.prog 25 #[.string p, .string h, .int .i64 n] w (VE w (⟨2, s, en0⟩ : It).val) := by
  have qq : True := (fun _ _ => trivial) bk HT
  clear qq
  have HZE := hid esize
  have HZS := hid stsize
  have HZI := hid isize
  go_enter Tryd.func25, Tryd.ntmps25
  go_wp2_with (first
    | (go_at_call 22; refine (HE.out _).mono ?_; rintro x w1 ⟨rfl, hb1⟩; have hri := (Row.new w 41 #[.int .i64 0, .int .i64 0, .int .i64 0, .int .i64 0, .int .u64 0, .int .u64 0, .int .i64 0, .int .i64 0, .int .i64 0, .int .u64 0, .int .i64 0, .int .i64 0, .int .i64 0, .int .i64 0, .string ⟨#[]⟩]).below hb1 (by simp); have hbe := ((Below.refl w.heap.size w).alloc (Nat.le_refl _) (.cells #[.int .i64 0, .int .i64 0, .int .i64 0, .int .i64 0, .int .u64 0, .int .u64 0, .int .i64 0, .int .i64 0, .int .i64 0, .int .u64 0, .int .i64 0, .int .i64 0, .int .i64 0, .int .i64 0, .string ⟨#[]⟩] 41)).trans (hb1.mono (by simp)))
    | ((with_reducible show wpList _ _ _ ({ dst := none, op := .store _ (.tmp 7) (.tmp 16), type := _, pos := _, after := _, guard := _ } :: _) _ _); refine wpl_store_st rfl (.tmp 7) (.tmp 16) rfl (n := 9) HZE.out w1.heap.size #[.int .i64 0, .int .i64 0, .int .i64 0, .int .u64 0, .int .i64 0, .int .i64 0, .int .i64 0, .int .i64 0, .string ⟨#[]⟩] #[.int .i64 e.view, .int .i64 e.opn, .int .i64 e.under, .int .u64 (e.parent : Int), .int .i64 e.client, .int .i64 e.session, .int .i64 e.request, .int .i64 e.oper, .string e.body] rfl rfl (Row.new _ _ _) ?_ (hid rfl) (hid rfl) (hid (ecells_one e)); intro w2 hre HB2; replace hri := (hri.alloc (.cells #[.int .i64 0, .int .i64 0, .int .i64 0, .int .u64 0, .int .i64 0, .int .i64 0, .int .i64 0, .int .i64 0, .string ⟨#[]⟩] 24)).grown HB2 (by have := hri.lt; intro e; have := Option.some.inj e; omega); replace hbe := (hbe.alloc hbe.size (.cells #[.int .i64 0, .int .i64 0, .int .i64 0, .int .u64 0, .int .i64 0, .int .i64 0, .int .i64 0, .int .i64 0, .string ⟨#[]⟩] 24)).trans (below_grown HB2 hbe.size (by have := hbe.size; simp; omega)))
    | (go_at_call 23; refine (HS.out _).mono ?_; rintro x w3 ⟨rfl, hb3⟩; replace hri := hri.below hb3 hri.lt; replace hre := hre.below hb3 hre.lt; replace hbe := hbe.trans (hb3.mono hbe.size))
    | ((with_reducible show wpList _ _ _ ({ dst := none, op := .store _ (.tmp 10) (.tmp 22), type := _, pos := _, after := _, guard := _ } :: _) _ _); refine wpl_store_st rfl (.tmp 10) (.tmp 22) rfl (n := 5) HZS.out w3.heap.size #[.int .i64 0, .int .i64 0, .int .i64 0, .int .u64 0, .int .u64 0] #[.int .i64 s.opn, .int .i64 s.view, .int .i64 s.under, .int .u64 (s.parent : Int), .int .u64 (s.sum : Int)] rfl rfl (Row.new _ _ _) ?_ (hid rfl) (hid rfl) (hid (stcells_one s)); intro w4 hrs HB4; replace hri := (hri.alloc (.cells #[.int .i64 0, .int .i64 0, .int .i64 0, .int .u64 0, .int .u64 0] 26)).grown HB4 (by have := hri.lt; intro e; have := Option.some.inj e; omega); replace hre := (hre.alloc (.cells #[.int .i64 0, .int .i64 0, .int .i64 0, .int .u64 0, .int .u64 0] 26)).grown HB4 (by have := hre.lt; intro e; have := Option.some.inj e; omega); replace hbe := (hbe.alloc hbe.size (.cells #[.int .i64 0, .int .i64 0, .int .i64 0, .int .u64 0, .int .u64 0] 26)).trans (below_grown HB4 hbe.size (by have := hbe.size; simp; omega)); have he1 := hre.at_ 1 _ rfl; have hs0 := hrs.at_ 0 _ rfl))
  have HBE := hid hbe
  have HRI := hid hri
  have HEF := hid hre
  have HSF := hid hrs
  clear hbe hri hre hrs he1 hs0
  refine wp_region_held_drew (S := fun W => Below w4.heap.size w4 W) (by kernel_rfl) ((Below.refl _ _).drew) (fun hH => ?_)
  refine wpAnyH_take (i := 0) (v := .bool false) rfl (by kernel_rfl) (by kernel_rfl) (by kernel_rfl) (fun _ _ _ h => h) (Or.inl ⟨by rfl, fun w' hw' => by clear hw'; go_simp⟩) hH ?_
  simp only [Act.put, List.getElem_toArray, List.getElem_cons_zero]
  refine wpAnyH_take (i := 1) (v := .bool false) rfl (by kernel_rfl) (by kernel_rfl) (by kernel_rfl) (fun _ _ _ h => h) (Or.inl ⟨by rfl, fun w' hw' => by clear hw'; go_simp⟩) hH ?_
  simp only [Act.put, List.getElem_toArray, List.getElem_cons_zero, List.getElem_cons_succ]
  refine wpAnyH_take (i := 2) (v := undef) rfl (by kernel_rfl) (by kernel_rfl) (by kernel_rfl) (fun _ _ _ h => h) (Or.inr ⟨by kernel_rfl, rfl⟩) hH ?_
  simp only [Act.put, List.getElem_toArray, List.getElem_cons_zero, List.getElem_cons_succ]
  refine wpAnyH_take (i := 3) (v := undef) rfl (by kernel_rfl) (by kernel_rfl) (by kernel_rfl) (fun _ _ _ h => h) (Or.inr ⟨by kernel_rfl, rfl⟩) hH ?_
  simp only [Act.put, List.getElem_toArray, List.getElem_cons_zero, List.getElem_cons_succ]
  refine wpAnyH_take (i := 4) (v := undef) rfl (by kernel_rfl) (by kernel_rfl) (by kernel_rfl) (fun _ _ _ h => h) (Or.inr ⟨by kernel_rfl, rfl⟩) hH ?_
  simp only [Act.put, List.getElem_toArray, List.getElem_cons_zero, List.getElem_cons_succ]
  refine wpAnyH_take (i := 5) (v := undef) rfl (by kernel_rfl) (by kernel_rfl) (by kernel_rfl) (fun _ _ _ h => h) (Or.inr ⟨by kernel_rfl, rfl⟩) hH ?_
  simp only [Act.put, List.getElem_toArray, List.getElem_cons_zero, List.getElem_cons_succ]
  refine wpAnyH_take (i := 6) (v := .bool false) rfl (by kernel_rfl) (by kernel_rfl) (by kernel_rfl) (fun _ _ _ h => h) (Or.inl ⟨by kernel_rfl, fun w' _ => by kernel_rfl⟩) hH ?_
  simp only [Act.put, List.getElem_toArray, List.getElem_cons_zero, List.getElem_cons_succ]
  refine wpAnyH_done (by kernel_rfl) ?_ _
  try simp only [Act.put, List.getElem_toArray, List.getElem_cons_zero, List.getElem_cons_succ]
  simp only [List.setIfInBounds_toArray, List.set_cons_succ, List.set_cons_zero]
  have hbe := HBE.out.trans (hH.mono HBE.out.size)
  have hri := HRI.out.below hH HRI.out.lt
  have hre := HEF.out.below hH HEF.out.lt
  have hrs := HSF.out.below hH HSF.out.lt
  clear hH
  go_wp2_with (first
    | ((with_reducible show wpList _ _ _ ({ dst := some 42, op := _, type := _, pos := _, after := _, guard := _ } :: _) _ _); refine wpList_load_row rfl 26 (.tmp 10) rfl w3.heap.size rfl 26 #[.int .i64 s.opn, .int .i64 s.view, .int .i64 s.under, .int .u64 (s.parent : Int), .int .u64 (s.sum : Int)] (0, 0) _ (Row.arr (cs := #[.int .i64 s.opn, .int .i64 s.view, .int .i64 s.under, .int .u64 (s.parent : Int), .int .u64 (s.sum : Int)]) hrs) Tryd.underlying26 rfl HZS.out ?_)
    | ((with_reducible show wpList _ _ _ ({ dst := some 43, op := _, type := _, pos := _, after := _, guard := _ } :: _) _ _); refine wpList_load_row rfl 24 (.tmp 7) rfl w1.heap.size rfl 24 #[.int .i64 e.view, .int .i64 e.opn, .int .i64 e.under, .int .u64 (e.parent : Int), .int .i64 e.client, .int .i64 e.session, .int .i64 e.request, .int .i64 e.oper, .string e.body] (0, 0) _ (Row.arr (cs := #[.int .i64 e.view, .int .i64 e.opn, .int .i64 e.under, .int .u64 (e.parent : Int), .int .i64 e.client, .int .i64 e.session, .int .i64 e.request, .int .i64 e.oper, .string e.body]) hre) Tryd.underlying24 rfl HZE.out ?_)
    | ((with_reducible show wpList _ _ _ ({ dst := some 45, op := _, type := _, pos := _, after := _, guard := _ } :: _) _ _); refine wpList_load_row rfl 26 (.tmp 10) rfl w3.heap.size rfl 26 #[.int .i64 s.opn, .int .i64 s.view, .int .i64 s.under, .int .u64 (s.parent : Int), .int .u64 (s.sum : Int)] (0, 0) _ (Row.arr (cs := #[.int .i64 s.opn, .int .i64 s.view, .int .i64 s.under, .int .u64 (s.parent : Int), .int .u64 (s.sum : Int)]) hrs) Tryd.underlying26 rfl HZS.out ?_)
    | ((with_reducible show wpList _ _ _ ({ dst := none, op := .store _ (.tmp 6) (.tmp 46), type := _, pos := _, after := _, guard := _ } :: _) _ _); refine wpl_store_st rfl (.tmp 6) (.tmp 46) rfl (n := 15) HZI.out w.heap.size #[.int .i64 0, .int .i64 0, .int .i64 0, .int .i64 0, .int .u64 0, .int .u64 0, .int .i64 0, .int .i64 0, .int .i64 0, .int .u64 0, .int .i64 0, .int .i64 0, .int .i64 0, .int .i64 0, .string ⟨#[]⟩] #[.int .i64 2, .int .i64 s.opn, .int .i64 s.view, .int .i64 s.under, .int .u64 (s.parent : Int), .int .u64 (s.sum : Int), .int .i64 0, .int .i64 0, .int .i64 0, .int .u64 0, .int .i64 0, .int .i64 0, .int .i64 0, .int .i64 0, .string ⟨#[]⟩] rfl rfl hri ?_ (hid rfl) (hid rfl) (hid (by simp [Value.oneCell'])); intro w7 hr7 HB7))
  exact bodyPost_ret (v := .agg #[.int .i64 2, .int .i64 s.opn, .int .i64 s.view, .int .i64 s.under, .int .u64 (s.parent : Int), .int .u64 (s.sum : Int), .int .i64 0, .int .i64 0, .int .i64 0, .int .u64 0, .int .i64 0, .int .i64 0, .int .i64 0, .int .i64 0, .string ⟨#[]⟩]) (results_cell_row rfl _ _ w.heap.size 41 #[.int .i64 2, .int .i64 s.opn, .int .i64 s.view, .int .i64 s.under, .int .u64 (s.parent : Int), .int .u64 (s.sum : Int), .int .i64 0, .int .i64 0, .int .i64 0, .int .u64 0, .int .i64 0, .int .i64 0, .int .i64 0, .int .i64 0, .string ⟨#[]⟩] (0, 0) _ rfl (Row.arr (cs := #[.int .i64 2, .int .i64 s.opn, .int .i64 s.view, .int .i64 s.under, .int .u64 (s.parent : Int), .int .u64 (s.sum : Int), .int .i64 0, .int .i64 0, .int .i64 0, .int .u64 0, .int .i64 0, .int .i64 0, .int .i64 0, .int .i64 0, .string ⟨#[]⟩]) hr7) Tryd.underlying41 rfl HZI.out) rfl ⟨rfl, hbe.trans (below_grown HB7 (Nat.le_refl _) hbe.size)⟩
set_option maxHeartbeats 2000000 in
theorem rjudge_4 (p h : ByteArray) (n : Int) (e : En) (s t : St) (bk br : Bool) (w : World) (hon : (s.opn != n) = true)
    (HE : Hid (∀ W : World, Calls Tryd.prog 22 #[.string p] W (LQ W #[.int .i64 e.view, .int .i64 e.opn, .int .i64 e.under, .int .u64 (e.parent : Int), .int .i64 e.client, .int .i64 e.session, .int .i64 e.request, .int .i64 e.oper, .string e.body] bk br)))
    (HS : Hid (∀ W : World, Calls Tryd.prog 23 #[.string h] W (LQ W #[.int .i64 s.opn, .int .i64 s.view, .int .i64 s.under, .int .u64 (s.parent : Int), .int .u64 (s.sum : Int)] true true)))
    (HT : Hid (∀ W : World, Calls Tryd.prog 17 #[.agg #[.int .i64 e.view, .int .i64 e.opn, .int .i64 e.under, .int .u64 (e.parent : Int), .int .i64 e.client, .int .i64 e.session, .int .i64 e.request, .int .i64 e.oper, .string e.body]] W (VE W (.agg #[.int .i64 t.opn, .int .i64 t.view, .int .i64 t.under, .int .u64 (t.parent : Int), .int .u64 (t.sum : Int)])))) :
    Calls Tryd.prog 25 #[.string p, .string h, .int .i64 n] w (VE w (⟨0, st0, en0⟩ : It).val) := by
  have qq : True := (fun _ => trivial) HT
  clear qq
  have HZE := hid esize
  have HZS := hid stsize
  have HZI := hid isize
  go_enter Tryd.func25, Tryd.ntmps25
  go_wp2_with (first
    | (go_at_call 22; refine (HE.out _).mono ?_; rintro x w1 ⟨rfl, hb1⟩; have hri := (Row.new w 41 #[.int .i64 0, .int .i64 0, .int .i64 0, .int .i64 0, .int .u64 0, .int .u64 0, .int .i64 0, .int .i64 0, .int .i64 0, .int .u64 0, .int .i64 0, .int .i64 0, .int .i64 0, .int .i64 0, .string ⟨#[]⟩]).below hb1 (by simp); have hbe := ((Below.refl w.heap.size w).alloc (Nat.le_refl _) (.cells #[.int .i64 0, .int .i64 0, .int .i64 0, .int .i64 0, .int .u64 0, .int .u64 0, .int .i64 0, .int .i64 0, .int .i64 0, .int .u64 0, .int .i64 0, .int .i64 0, .int .i64 0, .int .i64 0, .string ⟨#[]⟩] 41)).trans (hb1.mono (by simp)))
    | ((with_reducible show wpList _ _ _ ({ dst := none, op := .store _ (.tmp 7) (.tmp 16), type := _, pos := _, after := _, guard := _ } :: _) _ _); refine wpl_store_st rfl (.tmp 7) (.tmp 16) rfl (n := 9) HZE.out w1.heap.size #[.int .i64 0, .int .i64 0, .int .i64 0, .int .u64 0, .int .i64 0, .int .i64 0, .int .i64 0, .int .i64 0, .string ⟨#[]⟩] #[.int .i64 e.view, .int .i64 e.opn, .int .i64 e.under, .int .u64 (e.parent : Int), .int .i64 e.client, .int .i64 e.session, .int .i64 e.request, .int .i64 e.oper, .string e.body] rfl rfl (Row.new _ _ _) ?_ (hid rfl) (hid rfl) (hid (ecells_one e)); intro w2 hre HB2; replace hri := (hri.alloc (.cells #[.int .i64 0, .int .i64 0, .int .i64 0, .int .u64 0, .int .i64 0, .int .i64 0, .int .i64 0, .int .i64 0, .string ⟨#[]⟩] 24)).grown HB2 (by have := hri.lt; intro e; have := Option.some.inj e; omega); replace hbe := (hbe.alloc hbe.size (.cells #[.int .i64 0, .int .i64 0, .int .i64 0, .int .u64 0, .int .i64 0, .int .i64 0, .int .i64 0, .int .i64 0, .string ⟨#[]⟩] 24)).trans (below_grown HB2 hbe.size (by have := hbe.size; simp; omega)))
    | (go_at_call 23; refine (HS.out _).mono ?_; rintro x w3 ⟨rfl, hb3⟩; replace hri := hri.below hb3 hri.lt; replace hre := hre.below hb3 hre.lt; replace hbe := hbe.trans (hb3.mono hbe.size))
    | ((with_reducible show wpList _ _ _ ({ dst := none, op := .store _ (.tmp 10) (.tmp 22), type := _, pos := _, after := _, guard := _ } :: _) _ _); refine wpl_store_st rfl (.tmp 10) (.tmp 22) rfl (n := 5) HZS.out w3.heap.size #[.int .i64 0, .int .i64 0, .int .i64 0, .int .u64 0, .int .u64 0] #[.int .i64 s.opn, .int .i64 s.view, .int .i64 s.under, .int .u64 (s.parent : Int), .int .u64 (s.sum : Int)] rfl rfl (Row.new _ _ _) ?_ (hid rfl) (hid rfl) (hid (stcells_one s)); intro w4 hrs HB4; replace hri := (hri.alloc (.cells #[.int .i64 0, .int .i64 0, .int .i64 0, .int .u64 0, .int .u64 0] 26)).grown HB4 (by have := hri.lt; intro e; have := Option.some.inj e; omega); replace hre := (hre.alloc (.cells #[.int .i64 0, .int .i64 0, .int .i64 0, .int .u64 0, .int .u64 0] 26)).grown HB4 (by have := hre.lt; intro e; have := Option.some.inj e; omega); replace hbe := (hbe.alloc hbe.size (.cells #[.int .i64 0, .int .i64 0, .int .i64 0, .int .u64 0, .int .u64 0] 26)).trans (below_grown HB4 hbe.size (by have := hbe.size; simp; omega)); have he1 := hre.at_ 1 _ rfl; have hs0 := hrs.at_ 0 _ rfl)
    | ((with_reducible show wpList _ _ _ ({ dst := none, op := .store _ (.tmp 6) (.tmp 34), type := _, pos := _, after := _, guard := _ } :: _) _ _); refine wpl_store_st rfl (.tmp 6) (.tmp 34) rfl (n := 15) HZI.out w.heap.size #[.int .i64 0, .int .i64 0, .int .i64 0, .int .i64 0, .int .u64 0, .int .u64 0, .int .i64 0, .int .i64 0, .int .i64 0, .int .u64 0, .int .i64 0, .int .i64 0, .int .i64 0, .int .i64 0, .string ⟨#[]⟩] #[.int .i64 0, .int .i64 0, .int .i64 0, .int .i64 0, .int .u64 0, .int .u64 0, .int .i64 0, .int .i64 0, .int .i64 0, .int .u64 0, .int .i64 0, .int .i64 0, .int .i64 0, .int .i64 0, .string ⟨#[]⟩] rfl rfl hri ?_ (hid rfl) (hid rfl) (hid (by simp [Value.oneCell'])); intro w7 hr7 HB7))
  exact bodyPost_ret (v := .agg #[.int .i64 0, .int .i64 0, .int .i64 0, .int .i64 0, .int .u64 0, .int .u64 0, .int .i64 0, .int .i64 0, .int .i64 0, .int .u64 0, .int .i64 0, .int .i64 0, .int .i64 0, .int .i64 0, .string ⟨#[]⟩]) (results_cell_row rfl _ _ w.heap.size 41 #[.int .i64 0, .int .i64 0, .int .i64 0, .int .i64 0, .int .u64 0, .int .u64 0, .int .i64 0, .int .i64 0, .int .i64 0, .int .u64 0, .int .i64 0, .int .i64 0, .int .i64 0, .int .i64 0, .string ⟨#[]⟩] (0, 0) _ rfl (Row.arr (cs := #[.int .i64 0, .int .i64 0, .int .i64 0, .int .i64 0, .int .u64 0, .int .u64 0, .int .i64 0, .int .i64 0, .int .i64 0, .int .u64 0, .int .i64 0, .int .i64 0, .int .i64 0, .int .i64 0, .string ⟨#[]⟩]) hr7) Tryd.underlying41 rfl HZI.out) rfl ⟨rfl, hbe.trans (below_grown HB7 (Nat.le_refl _) hbe.size)⟩
set_option maxHeartbeats 2000000 in
theorem rjudge_5 (p h : ByteArray) (n : Int) (e : En) (s t : St) (bk br : Bool) (w : World) 
    (HE : Hid (∀ W : World, Calls Tryd.prog 22 #[.string p] W (LQ W #[.int .i64 e.view, .int .i64 e.opn, .int .i64 e.under, .int .u64 (e.parent : Int), .int .i64 e.client, .int .i64 e.session, .int .i64 e.request, .int .i64 e.oper, .string e.body] bk br)))
    (HS : Hid (∀ W : World, Calls Tryd.prog 23 #[.string h] W (LQ W #[.int .i64 s.opn, .int .i64 s.view, .int .i64 s.under, .int .u64 (s.parent : Int), .int .u64 (s.sum : Int)] false true)))
    (HT : Hid (∀ W : World, Calls Tryd.prog 17 #[.agg #[.int .i64 e.view, .int .i64 e.opn, .int .i64 e.under, .int .u64 (e.parent : Int), .int .i64 e.client, .int .i64 e.session, .int .i64 e.request, .int .i64 e.oper, .string e.body]] W (VE W (.agg #[.int .i64 t.opn, .int .i64 t.view, .int .i64 t.under, .int .u64 (t.parent : Int), .int .u64 (t.sum : Int)])))) :
    Calls Tryd.prog 25 #[.string p, .string h, .int .i64 n] w (VE w (⟨0, st0, en0⟩ : It).val) := by
  have qq : True := (fun _ => trivial) HT
  clear qq
  have HZE := hid esize
  have HZS := hid stsize
  have HZI := hid isize
  go_enter Tryd.func25, Tryd.ntmps25
  go_wp2_with (first
    | (go_at_call 22; refine (HE.out _).mono ?_; rintro x w1 ⟨rfl, hb1⟩; have hri := (Row.new w 41 #[.int .i64 0, .int .i64 0, .int .i64 0, .int .i64 0, .int .u64 0, .int .u64 0, .int .i64 0, .int .i64 0, .int .i64 0, .int .u64 0, .int .i64 0, .int .i64 0, .int .i64 0, .int .i64 0, .string ⟨#[]⟩]).below hb1 (by simp); have hbe := ((Below.refl w.heap.size w).alloc (Nat.le_refl _) (.cells #[.int .i64 0, .int .i64 0, .int .i64 0, .int .i64 0, .int .u64 0, .int .u64 0, .int .i64 0, .int .i64 0, .int .i64 0, .int .u64 0, .int .i64 0, .int .i64 0, .int .i64 0, .int .i64 0, .string ⟨#[]⟩] 41)).trans (hb1.mono (by simp)))
    | ((with_reducible show wpList _ _ _ ({ dst := none, op := .store _ (.tmp 7) (.tmp 16), type := _, pos := _, after := _, guard := _ } :: _) _ _); refine wpl_store_st rfl (.tmp 7) (.tmp 16) rfl (n := 9) HZE.out w1.heap.size #[.int .i64 0, .int .i64 0, .int .i64 0, .int .u64 0, .int .i64 0, .int .i64 0, .int .i64 0, .int .i64 0, .string ⟨#[]⟩] #[.int .i64 e.view, .int .i64 e.opn, .int .i64 e.under, .int .u64 (e.parent : Int), .int .i64 e.client, .int .i64 e.session, .int .i64 e.request, .int .i64 e.oper, .string e.body] rfl rfl (Row.new _ _ _) ?_ (hid rfl) (hid rfl) (hid (ecells_one e)); intro w2 hre HB2; replace hri := (hri.alloc (.cells #[.int .i64 0, .int .i64 0, .int .i64 0, .int .u64 0, .int .i64 0, .int .i64 0, .int .i64 0, .int .i64 0, .string ⟨#[]⟩] 24)).grown HB2 (by have := hri.lt; intro e; have := Option.some.inj e; omega); replace hbe := (hbe.alloc hbe.size (.cells #[.int .i64 0, .int .i64 0, .int .i64 0, .int .u64 0, .int .i64 0, .int .i64 0, .int .i64 0, .int .i64 0, .string ⟨#[]⟩] 24)).trans (below_grown HB2 hbe.size (by have := hbe.size; simp; omega)))
    | (go_at_call 23; refine (HS.out _).mono ?_; rintro x w3 ⟨rfl, hb3⟩; replace hri := hri.below hb3 hri.lt; replace hre := hre.below hb3 hre.lt; replace hbe := hbe.trans (hb3.mono hbe.size))
    | ((with_reducible show wpList _ _ _ ({ dst := none, op := .store _ (.tmp 10) (.tmp 22), type := _, pos := _, after := _, guard := _ } :: _) _ _); refine wpl_store_st rfl (.tmp 10) (.tmp 22) rfl (n := 5) HZS.out w3.heap.size #[.int .i64 0, .int .i64 0, .int .i64 0, .int .u64 0, .int .u64 0] #[.int .i64 s.opn, .int .i64 s.view, .int .i64 s.under, .int .u64 (s.parent : Int), .int .u64 (s.sum : Int)] rfl rfl (Row.new _ _ _) ?_ (hid rfl) (hid rfl) (hid (stcells_one s)); intro w4 hrs HB4; replace hri := (hri.alloc (.cells #[.int .i64 0, .int .i64 0, .int .i64 0, .int .u64 0, .int .u64 0] 26)).grown HB4 (by have := hri.lt; intro e; have := Option.some.inj e; omega); replace hre := (hre.alloc (.cells #[.int .i64 0, .int .i64 0, .int .i64 0, .int .u64 0, .int .u64 0] 26)).grown HB4 (by have := hre.lt; intro e; have := Option.some.inj e; omega); replace hbe := (hbe.alloc hbe.size (.cells #[.int .i64 0, .int .i64 0, .int .i64 0, .int .u64 0, .int .u64 0] 26)).trans (below_grown HB4 hbe.size (by have := hbe.size; simp; omega)); have he1 := hre.at_ 1 _ rfl; have hs0 := hrs.at_ 0 _ rfl)
    | ((with_reducible show wpList _ _ _ ({ dst := none, op := .store _ (.tmp 6) (.tmp 34), type := _, pos := _, after := _, guard := _ } :: _) _ _); refine wpl_store_st rfl (.tmp 6) (.tmp 34) rfl (n := 15) HZI.out w.heap.size #[.int .i64 0, .int .i64 0, .int .i64 0, .int .i64 0, .int .u64 0, .int .u64 0, .int .i64 0, .int .i64 0, .int .i64 0, .int .u64 0, .int .i64 0, .int .i64 0, .int .i64 0, .int .i64 0, .string ⟨#[]⟩] #[.int .i64 0, .int .i64 0, .int .i64 0, .int .i64 0, .int .u64 0, .int .u64 0, .int .i64 0, .int .i64 0, .int .i64 0, .int .u64 0, .int .i64 0, .int .i64 0, .int .i64 0, .int .i64 0, .string ⟨#[]⟩] rfl rfl hri ?_ (hid rfl) (hid rfl) (hid (by simp [Value.oneCell'])); intro w7 hr7 HB7))
  exact bodyPost_ret (v := .agg #[.int .i64 0, .int .i64 0, .int .i64 0, .int .i64 0, .int .u64 0, .int .u64 0, .int .i64 0, .int .i64 0, .int .i64 0, .int .u64 0, .int .i64 0, .int .i64 0, .int .i64 0, .int .i64 0, .string ⟨#[]⟩]) (results_cell_row rfl _ _ w.heap.size 41 #[.int .i64 0, .int .i64 0, .int .i64 0, .int .i64 0, .int .u64 0, .int .u64 0, .int .i64 0, .int .i64 0, .int .i64 0, .int .u64 0, .int .i64 0, .int .i64 0, .int .i64 0, .int .i64 0, .string ⟨#[]⟩] (0, 0) _ rfl (Row.arr (cs := #[.int .i64 0, .int .i64 0, .int .i64 0, .int .i64 0, .int .u64 0, .int .u64 0, .int .i64 0, .int .i64 0, .int .i64 0, .int .u64 0, .int .i64 0, .int .i64 0, .int .i64 0, .int .i64 0, .string ⟨#[]⟩]) hr7) Tryd.underlying41 rfl HZI.out) rfl ⟨rfl, hbe.trans (below_grown HB7 (Nat.le_refl _) hbe.size)⟩
set_option maxHeartbeats 2000000 in
theorem rjudge_6 (p h : ByteArray) (n : Int) (e : En) (s t : St) (bk br : Bool) (w : World) 
    (HE : Hid (∀ W : World, Calls Tryd.prog 22 #[.string p] W (LQ W #[.int .i64 e.view, .int .i64 e.opn, .int .i64 e.under, .int .u64 (e.parent : Int), .int .i64 e.client, .int .i64 e.session, .int .i64 e.request, .int .i64 e.oper, .string e.body] false false)))
    (HS : Hid (∀ W : World, Calls Tryd.prog 23 #[.string h] W (LQ W #[.int .i64 s.opn, .int .i64 s.view, .int .i64 s.under, .int .u64 (s.parent : Int), .int .u64 (s.sum : Int)] false false)))
    (HT : Hid (∀ W : World, Calls Tryd.prog 17 #[.agg #[.int .i64 e.view, .int .i64 e.opn, .int .i64 e.under, .int .u64 (e.parent : Int), .int .i64 e.client, .int .i64 e.session, .int .i64 e.request, .int .i64 e.oper, .string e.body]] W (VE W (.agg #[.int .i64 t.opn, .int .i64 t.view, .int .i64 t.under, .int .u64 (t.parent : Int), .int .u64 (t.sum : Int)])))) :
    Calls Tryd.prog 25 #[.string p, .string h, .int .i64 n] w (VE w (⟨3, st0, en0⟩ : It).val) := by
  have qq : True := (fun _ _ _ => trivial) bk br HT
  clear qq
  have HZE := hid esize
  have HZS := hid stsize
  have HZI := hid isize
  go_enter Tryd.func25, Tryd.ntmps25
  go_wp2_with (first
    | (go_at_call 22; refine (HE.out _).mono ?_; rintro x w1 ⟨rfl, hb1⟩; have hri := (Row.new w 41 #[.int .i64 0, .int .i64 0, .int .i64 0, .int .i64 0, .int .u64 0, .int .u64 0, .int .i64 0, .int .i64 0, .int .i64 0, .int .u64 0, .int .i64 0, .int .i64 0, .int .i64 0, .int .i64 0, .string ⟨#[]⟩]).below hb1 (by simp); have hbe := ((Below.refl w.heap.size w).alloc (Nat.le_refl _) (.cells #[.int .i64 0, .int .i64 0, .int .i64 0, .int .i64 0, .int .u64 0, .int .u64 0, .int .i64 0, .int .i64 0, .int .i64 0, .int .u64 0, .int .i64 0, .int .i64 0, .int .i64 0, .int .i64 0, .string ⟨#[]⟩] 41)).trans (hb1.mono (by simp)))
    | ((with_reducible show wpList _ _ _ ({ dst := none, op := .store _ (.tmp 7) (.tmp 16), type := _, pos := _, after := _, guard := _ } :: _) _ _); refine wpl_store_st rfl (.tmp 7) (.tmp 16) rfl (n := 9) HZE.out w1.heap.size #[.int .i64 0, .int .i64 0, .int .i64 0, .int .u64 0, .int .i64 0, .int .i64 0, .int .i64 0, .int .i64 0, .string ⟨#[]⟩] #[.int .i64 e.view, .int .i64 e.opn, .int .i64 e.under, .int .u64 (e.parent : Int), .int .i64 e.client, .int .i64 e.session, .int .i64 e.request, .int .i64 e.oper, .string e.body] rfl rfl (Row.new _ _ _) ?_ (hid rfl) (hid rfl) (hid (ecells_one e)); intro w2 hre HB2; replace hri := (hri.alloc (.cells #[.int .i64 0, .int .i64 0, .int .i64 0, .int .u64 0, .int .i64 0, .int .i64 0, .int .i64 0, .int .i64 0, .string ⟨#[]⟩] 24)).grown HB2 (by have := hri.lt; intro e; have := Option.some.inj e; omega); replace hbe := (hbe.alloc hbe.size (.cells #[.int .i64 0, .int .i64 0, .int .i64 0, .int .u64 0, .int .i64 0, .int .i64 0, .int .i64 0, .int .i64 0, .string ⟨#[]⟩] 24)).trans (below_grown HB2 hbe.size (by have := hbe.size; simp; omega)))
    | (go_at_call 23; refine (HS.out _).mono ?_; rintro x w3 ⟨rfl, hb3⟩; replace hri := hri.below hb3 hri.lt; replace hre := hre.below hb3 hre.lt; replace hbe := hbe.trans (hb3.mono hbe.size))
    | ((with_reducible show wpList _ _ _ ({ dst := none, op := .store _ (.tmp 10) (.tmp 22), type := _, pos := _, after := _, guard := _ } :: _) _ _); refine wpl_store_st rfl (.tmp 10) (.tmp 22) rfl (n := 5) HZS.out w3.heap.size #[.int .i64 0, .int .i64 0, .int .i64 0, .int .u64 0, .int .u64 0] #[.int .i64 s.opn, .int .i64 s.view, .int .i64 s.under, .int .u64 (s.parent : Int), .int .u64 (s.sum : Int)] rfl rfl (Row.new _ _ _) ?_ (hid rfl) (hid rfl) (hid (stcells_one s)); intro w4 hrs HB4; replace hri := (hri.alloc (.cells #[.int .i64 0, .int .i64 0, .int .i64 0, .int .u64 0, .int .u64 0] 26)).grown HB4 (by have := hri.lt; intro e; have := Option.some.inj e; omega); replace hre := (hre.alloc (.cells #[.int .i64 0, .int .i64 0, .int .i64 0, .int .u64 0, .int .u64 0] 26)).grown HB4 (by have := hre.lt; intro e; have := Option.some.inj e; omega); replace hbe := (hbe.alloc hbe.size (.cells #[.int .i64 0, .int .i64 0, .int .i64 0, .int .u64 0, .int .u64 0] 26)).trans (below_grown HB4 hbe.size (by have := hbe.size; simp; omega)); have he1 := hre.at_ 1 _ rfl; have hs0 := hrs.at_ 0 _ rfl)
    | ((with_reducible show wpList _ _ _ ({ dst := none, op := .store _ (.tmp 6) (.tmp 49), type := _, pos := _, after := _, guard := _ } :: _) _ _); refine wpl_store_st rfl (.tmp 6) (.tmp 49) rfl (n := 15) HZI.out w.heap.size #[.int .i64 0, .int .i64 0, .int .i64 0, .int .i64 0, .int .u64 0, .int .u64 0, .int .i64 0, .int .i64 0, .int .i64 0, .int .u64 0, .int .i64 0, .int .i64 0, .int .i64 0, .int .i64 0, .string ⟨#[]⟩] #[.int .i64 3, .int .i64 0, .int .i64 0, .int .i64 0, .int .u64 0, .int .u64 0, .int .i64 0, .int .i64 0, .int .i64 0, .int .u64 0, .int .i64 0, .int .i64 0, .int .i64 0, .int .i64 0, .string ⟨#[]⟩] rfl rfl hri ?_ (hid rfl) (hid rfl) (hid (by simp [Value.oneCell'])); intro w7 hr7 HB7))
  exact bodyPost_ret (v := .agg #[.int .i64 3, .int .i64 0, .int .i64 0, .int .i64 0, .int .u64 0, .int .u64 0, .int .i64 0, .int .i64 0, .int .i64 0, .int .u64 0, .int .i64 0, .int .i64 0, .int .i64 0, .int .i64 0, .string ⟨#[]⟩]) (results_cell_row rfl _ _ w.heap.size 41 #[.int .i64 3, .int .i64 0, .int .i64 0, .int .i64 0, .int .u64 0, .int .u64 0, .int .i64 0, .int .i64 0, .int .i64 0, .int .u64 0, .int .i64 0, .int .i64 0, .int .i64 0, .int .i64 0, .string ⟨#[]⟩] (0, 0) _ rfl (Row.arr (cs := #[.int .i64 3, .int .i64 0, .int .i64 0, .int .i64 0, .int .u64 0, .int .u64 0, .int .i64 0, .int .i64 0, .int .i64 0, .int .u64 0, .int .i64 0, .int .i64 0, .int .i64 0, .int .i64 0, .string ⟨#[]⟩]) hr7) Tryd.underlying41 rfl HZI.out) rfl ⟨rfl, hbe.trans (below_grown HB7 (Nat.le_refl _) hbe.size)⟩
set_option maxHeartbeats 2000000 in
theorem rjudge_7 (p h : ByteArray) (n : Int) (e : En) (s t : St) (bk br : Bool) (w : World) (hen : (e.opn == n) = true)
    (HE : Hid (∀ W : World, Calls Tryd.prog 22 #[.string p] W (LQ W #[.int .i64 e.view, .int .i64 e.opn, .int .i64 e.under, .int .u64 (e.parent : Int), .int .i64 e.client, .int .i64 e.session, .int .i64 e.request, .int .i64 e.oper, .string e.body] true true)))
    (HS : Hid (∀ W : World, Calls Tryd.prog 23 #[.string h] W (LQ W #[.int .i64 s.opn, .int .i64 s.view, .int .i64 s.under, .int .u64 (s.parent : Int), .int .u64 (s.sum : Int)] false false)))
    (HT : Hid (∀ W : World, Calls Tryd.prog 17 #[.agg #[.int .i64 e.view, .int .i64 e.opn, .int .i64 e.under, .int .u64 (e.parent : Int), .int .i64 e.client, .int .i64 e.session, .int .i64 e.request, .int .i64 e.oper, .string e.body]] W (VE W (.agg #[.int .i64 t.opn, .int .i64 t.view, .int .i64 t.under, .int .u64 (t.parent : Int), .int .u64 (t.sum : Int)])))) :
    Calls Tryd.prog 25 #[.string p, .string h, .int .i64 n] w (VE w (⟨1, t, e⟩ : It).val) := by
  have qq : True := (fun _ _ => trivial) bk br
  clear qq
  have HZE := hid esize
  have HZS := hid stsize
  have HZI := hid isize
  go_enter Tryd.func25, Tryd.ntmps25
  go_wp2_with (first
    | (go_at_call 22; refine (HE.out _).mono ?_; rintro x w1 ⟨rfl, hb1⟩; have hri := (Row.new w 41 #[.int .i64 0, .int .i64 0, .int .i64 0, .int .i64 0, .int .u64 0, .int .u64 0, .int .i64 0, .int .i64 0, .int .i64 0, .int .u64 0, .int .i64 0, .int .i64 0, .int .i64 0, .int .i64 0, .string ⟨#[]⟩]).below hb1 (by simp); have hbe := ((Below.refl w.heap.size w).alloc (Nat.le_refl _) (.cells #[.int .i64 0, .int .i64 0, .int .i64 0, .int .i64 0, .int .u64 0, .int .u64 0, .int .i64 0, .int .i64 0, .int .i64 0, .int .u64 0, .int .i64 0, .int .i64 0, .int .i64 0, .int .i64 0, .string ⟨#[]⟩] 41)).trans (hb1.mono (by simp)))
    | ((with_reducible show wpList _ _ _ ({ dst := none, op := .store _ (.tmp 7) (.tmp 16), type := _, pos := _, after := _, guard := _ } :: _) _ _); refine wpl_store_st rfl (.tmp 7) (.tmp 16) rfl (n := 9) HZE.out w1.heap.size #[.int .i64 0, .int .i64 0, .int .i64 0, .int .u64 0, .int .i64 0, .int .i64 0, .int .i64 0, .int .i64 0, .string ⟨#[]⟩] #[.int .i64 e.view, .int .i64 e.opn, .int .i64 e.under, .int .u64 (e.parent : Int), .int .i64 e.client, .int .i64 e.session, .int .i64 e.request, .int .i64 e.oper, .string e.body] rfl rfl (Row.new _ _ _) ?_ (hid rfl) (hid rfl) (hid (ecells_one e)); intro w2 hre HB2; replace hri := (hri.alloc (.cells #[.int .i64 0, .int .i64 0, .int .i64 0, .int .u64 0, .int .i64 0, .int .i64 0, .int .i64 0, .int .i64 0, .string ⟨#[]⟩] 24)).grown HB2 (by have := hri.lt; intro e; have := Option.some.inj e; omega); replace hbe := (hbe.alloc hbe.size (.cells #[.int .i64 0, .int .i64 0, .int .i64 0, .int .u64 0, .int .i64 0, .int .i64 0, .int .i64 0, .int .i64 0, .string ⟨#[]⟩] 24)).trans (below_grown HB2 hbe.size (by have := hbe.size; simp; omega)))
    | (go_at_call 23; refine (HS.out _).mono ?_; rintro x w3 ⟨rfl, hb3⟩; replace hri := hri.below hb3 hri.lt; replace hre := hre.below hb3 hre.lt; replace hbe := hbe.trans (hb3.mono hbe.size))
    | ((with_reducible show wpList _ _ _ ({ dst := none, op := .store _ (.tmp 10) (.tmp 22), type := _, pos := _, after := _, guard := _ } :: _) _ _); refine wpl_store_st rfl (.tmp 10) (.tmp 22) rfl (n := 5) HZS.out w3.heap.size #[.int .i64 0, .int .i64 0, .int .i64 0, .int .u64 0, .int .u64 0] #[.int .i64 s.opn, .int .i64 s.view, .int .i64 s.under, .int .u64 (s.parent : Int), .int .u64 (s.sum : Int)] rfl rfl (Row.new _ _ _) ?_ (hid rfl) (hid rfl) (hid (stcells_one s)); intro w4 hrs HB4; replace hri := (hri.alloc (.cells #[.int .i64 0, .int .i64 0, .int .i64 0, .int .u64 0, .int .u64 0] 26)).grown HB4 (by have := hri.lt; intro e; have := Option.some.inj e; omega); replace hre := (hre.alloc (.cells #[.int .i64 0, .int .i64 0, .int .i64 0, .int .u64 0, .int .u64 0] 26)).grown HB4 (by have := hre.lt; intro e; have := Option.some.inj e; omega); replace hbe := (hbe.alloc hbe.size (.cells #[.int .i64 0, .int .i64 0, .int .i64 0, .int .u64 0, .int .u64 0] 26)).trans (below_grown HB4 hbe.size (by have := hbe.size; simp; omega)); have he1 := hre.at_ 1 _ rfl; have hs0 := hrs.at_ 0 _ rfl))
  have HBE := hid hbe
  have HRI := hid hri
  have HEF := hid hre
  have HSF := hid hrs
  clear hbe hri hre hrs he1 hs0
  refine wp_region_held_drew (S := fun W => Below w.heap.size w W ∧ Row W w1.heap.size 24 (Array.toList #[.int .i64 e.view, .int .i64 e.opn, .int .i64 e.under, .int .u64 (e.parent : Int), .int .i64 e.client, .int .i64 e.session, .int .i64 e.request, .int .i64 e.oper, .string e.body]) ∧ ∃ z : Array Value, z.size = 15 ∧ Row W w.heap.size 41 z.toList) (by kernel_rfl) ⟨HBE.out.drew, HEF.out.drew, #[.int .i64 0, .int .i64 0, .int .i64 0, .int .i64 0, .int .u64 0, .int .u64 0, .int .i64 0, .int .i64 0, .int .i64 0, .int .u64 0, .int .i64 0, .int .i64 0, .int .i64 0, .int .i64 0, .string ⟨#[]⟩], rfl, HRI.out.drew⟩ (fun hH => ?_)
  refine wpAnyH_take (i := 0) (v := .agg #[.int .i64 e.view, .int .i64 e.opn, .int .i64 e.under, .int .u64 (e.parent : Int), .int .i64 e.client, .int .i64 e.session, .int .i64 e.request, .int .i64 e.oper, .string e.body]) rfl (by kernel_rfl) (by kernel_rfl) (by kernel_rfl) (fun _ _ _ h => h) ?_ hH ?_
  · refine yieldsIf_load_mid ?_ 24 (.tmp 7) ?_ w1.heap.size 0 ?_ (Array.toList #[.int .i64 e.view, .int .i64 e.opn, .int .i64 e.under, .int .u64 (e.parent : Int), .int .i64 e.client, .int .i64 e.session, .int .i64 e.request, .int .i64 e.oper, .string e.body]) _ (fun W hW => Row.range (hW.2.1)) Tryd.underlying24 rfl (by exact HZE.out)
    all_goals kernel_rfl
  simp only [Act.put]
  refine wpAnyH_take (i := 2) (v := .agg #[.int .i64 e.view, .int .i64 e.opn, .int .i64 e.under, .int .u64 (e.parent : Int), .int .i64 e.client, .int .i64 e.session, .int .i64 e.request, .int .i64 e.oper, .string e.body]) rfl (by kernel_rfl) (by kernel_rfl) (by kernel_rfl) (fun _ _ _ h => h) ?_ hH ?_
  · refine yieldsIf_load_mid ?_ 24 (.tmp 7) ?_ w1.heap.size 0 ?_ (Array.toList #[.int .i64 e.view, .int .i64 e.opn, .int .i64 e.under, .int .u64 (e.parent : Int), .int .i64 e.client, .int .i64 e.session, .int .i64 e.request, .int .i64 e.oper, .string e.body]) _ (fun W hW => Row.range (hW.2.1)) Tryd.underlying24 rfl (by exact HZE.out)
    all_goals kernel_rfl
  simp only [Act.put]
  refine wpAnyH_ready (rs := [1]) (by kernel_rfl) (by simp) ?_
  refine AllReadyH.cons rfl (fun K hK => ?_) AllReadyH.nil
  go_simp
  go_at_call 17
  refine (HT.out _).mono ?_
  rintro x w5 ⟨rfl, hb5⟩
  go_wp2_with fail
  refine hK.out _ _ (⟨hH.1.trans (hb5.mono hH.1.size), Row.below hH.2.1 hb5 hH.2.1.lt, hH.2.2.elim fun z h => ⟨z, h.1, Row.below h.2 hb5 h.2.lt⟩⟩) (fun hH => ?_)
  clear hK K
  try simp only [Act.put]
  refine wpAnyH_take (i := 3) (v := .agg #[.int .i64 1, .int .i64 t.opn, .int .i64 t.view, .int .i64 t.under, .int .u64 (t.parent : Int), .int .u64 (t.sum : Int), .int .i64 e.view, .int .i64 e.opn, .int .i64 e.under, .int .u64 (e.parent : Int), .int .i64 e.client, .int .i64 e.session, .int .i64 e.request, .int .i64 e.oper, .string e.body]) rfl (by kernel_rfl) (by kernel_rfl) (by kernel_rfl) (fun _ _ _ h => h) (Or.inl ⟨by kernel_rfl, fun w' _ => by kernel_rfl⟩) hH ?_
  simp only [Act.put]
  refine wpAnyH_ready (rs := [4]) (by kernel_rfl) (by simp) ?_
  refine AllReadyH.cons rfl (fun K hK => ?_) AllReadyH.nil
  obtain ⟨hb8, he8, z, hz8, hm8⟩ := hH
  rw [if_pos (by kernel_rfl)]
  refine wp_store_st (.tmp 6) (.tmp 60) rfl HZI.out w.heap.size z #[.int .i64 1, .int .i64 t.opn, .int .i64 t.view, .int .i64 t.under, .int .u64 (t.parent : Int), .int .u64 (t.sum : Int), .int .i64 e.view, .int .i64 e.opn, .int .i64 e.under, .int .u64 (e.parent : Int), .int .i64 e.client, .int .i64 e.session, .int .i64 e.request, .int .i64 e.oper, .string e.body] rfl rfl hm8 hz8 rfl (by simp [Value.oneCell']) (fun w9 hr9 hg9 => ?_)
  have hb9 : Below w.heap.size w w9 := hb8.trans (below_grown hg9 (Nat.le_refl _) hb8.size)
  have hne : w1.heap.size ≠ w.heap.size := by have := hb1.size; simp at this; omega
  refine hK.out _ _ ⟨hb9, he8.grown hg9 (by intro e; exact hne (Option.some.inj e)), _, rfl, hr9⟩ (fun hH => ?_)
  clear hK K
  try simp only [Act.put]
  refine wpAnyH_done (by kernel_rfl) ?_ _
  try simp only [Act.put]
  go_wp2_with fail
  exact bodyPost_ret (v := .agg #[.int .i64 1, .int .i64 t.opn, .int .i64 t.view, .int .i64 t.under, .int .u64 (t.parent : Int), .int .u64 (t.sum : Int), .int .i64 e.view, .int .i64 e.opn, .int .i64 e.under, .int .u64 (e.parent : Int), .int .i64 e.client, .int .i64 e.session, .int .i64 e.request, .int .i64 e.oper, .string e.body]) (results_cell_row rfl _ _ w.heap.size 41 #[.int .i64 1, .int .i64 t.opn, .int .i64 t.view, .int .i64 t.under, .int .u64 (t.parent : Int), .int .u64 (t.sum : Int), .int .i64 e.view, .int .i64 e.opn, .int .i64 e.under, .int .u64 (e.parent : Int), .int .i64 e.client, .int .i64 e.session, .int .i64 e.request, .int .i64 e.oper, .string e.body] (0, 0) _ rfl (Row.arr (cs := #[.int .i64 1, .int .i64 t.opn, .int .i64 t.view, .int .i64 t.under, .int .u64 (t.parent : Int), .int .u64 (t.sum : Int), .int .i64 e.view, .int .i64 e.opn, .int .i64 e.under, .int .u64 (e.parent : Int), .int .i64 e.client, .int .i64 e.session, .int .i64 e.request, .int .i64 e.oper, .string e.body]) hr9) Tryd.underlying41 rfl HZI.out) rfl ⟨rfl, hb9⟩
set_option maxHeartbeats 2000000 in
theorem rjudge_8 (p h : ByteArray) (n : Int) (e : En) (s t : St) (bk br : Bool) (w : World) (hen : (e.opn == n) = false)
    (HE : Hid (∀ W : World, Calls Tryd.prog 22 #[.string p] W (LQ W #[.int .i64 e.view, .int .i64 e.opn, .int .i64 e.under, .int .u64 (e.parent : Int), .int .i64 e.client, .int .i64 e.session, .int .i64 e.request, .int .i64 e.oper, .string e.body] true true)))
    (HS : Hid (∀ W : World, Calls Tryd.prog 23 #[.string h] W (LQ W #[.int .i64 s.opn, .int .i64 s.view, .int .i64 s.under, .int .u64 (s.parent : Int), .int .u64 (s.sum : Int)] false false)))
    (HT : Hid (∀ W : World, Calls Tryd.prog 17 #[.agg #[.int .i64 e.view, .int .i64 e.opn, .int .i64 e.under, .int .u64 (e.parent : Int), .int .i64 e.client, .int .i64 e.session, .int .i64 e.request, .int .i64 e.oper, .string e.body]] W (VE W (.agg #[.int .i64 t.opn, .int .i64 t.view, .int .i64 t.under, .int .u64 (t.parent : Int), .int .u64 (t.sum : Int)])))) :
    Calls Tryd.prog 25 #[.string p, .string h, .int .i64 n] w (VE w (⟨0, st0, en0⟩ : It).val) := by
  have qq : True := (fun _ _ _ => trivial) bk br HT
  clear qq
  have HZE := hid esize
  have HZS := hid stsize
  have HZI := hid isize
  go_enter Tryd.func25, Tryd.ntmps25
  go_wp2_with (first
    | (go_at_call 22; refine (HE.out _).mono ?_; rintro x w1 ⟨rfl, hb1⟩; have hri := (Row.new w 41 #[.int .i64 0, .int .i64 0, .int .i64 0, .int .i64 0, .int .u64 0, .int .u64 0, .int .i64 0, .int .i64 0, .int .i64 0, .int .u64 0, .int .i64 0, .int .i64 0, .int .i64 0, .int .i64 0, .string ⟨#[]⟩]).below hb1 (by simp); have hbe := ((Below.refl w.heap.size w).alloc (Nat.le_refl _) (.cells #[.int .i64 0, .int .i64 0, .int .i64 0, .int .i64 0, .int .u64 0, .int .u64 0, .int .i64 0, .int .i64 0, .int .i64 0, .int .u64 0, .int .i64 0, .int .i64 0, .int .i64 0, .int .i64 0, .string ⟨#[]⟩] 41)).trans (hb1.mono (by simp)))
    | ((with_reducible show wpList _ _ _ ({ dst := none, op := .store _ (.tmp 7) (.tmp 16), type := _, pos := _, after := _, guard := _ } :: _) _ _); refine wpl_store_st rfl (.tmp 7) (.tmp 16) rfl (n := 9) HZE.out w1.heap.size #[.int .i64 0, .int .i64 0, .int .i64 0, .int .u64 0, .int .i64 0, .int .i64 0, .int .i64 0, .int .i64 0, .string ⟨#[]⟩] #[.int .i64 e.view, .int .i64 e.opn, .int .i64 e.under, .int .u64 (e.parent : Int), .int .i64 e.client, .int .i64 e.session, .int .i64 e.request, .int .i64 e.oper, .string e.body] rfl rfl (Row.new _ _ _) ?_ (hid rfl) (hid rfl) (hid (ecells_one e)); intro w2 hre HB2; replace hri := (hri.alloc (.cells #[.int .i64 0, .int .i64 0, .int .i64 0, .int .u64 0, .int .i64 0, .int .i64 0, .int .i64 0, .int .i64 0, .string ⟨#[]⟩] 24)).grown HB2 (by have := hri.lt; intro e; have := Option.some.inj e; omega); replace hbe := (hbe.alloc hbe.size (.cells #[.int .i64 0, .int .i64 0, .int .i64 0, .int .u64 0, .int .i64 0, .int .i64 0, .int .i64 0, .int .i64 0, .string ⟨#[]⟩] 24)).trans (below_grown HB2 hbe.size (by have := hbe.size; simp; omega)))
    | (go_at_call 23; refine (HS.out _).mono ?_; rintro x w3 ⟨rfl, hb3⟩; replace hri := hri.below hb3 hri.lt; replace hre := hre.below hb3 hre.lt; replace hbe := hbe.trans (hb3.mono hbe.size))
    | ((with_reducible show wpList _ _ _ ({ dst := none, op := .store _ (.tmp 10) (.tmp 22), type := _, pos := _, after := _, guard := _ } :: _) _ _); refine wpl_store_st rfl (.tmp 10) (.tmp 22) rfl (n := 5) HZS.out w3.heap.size #[.int .i64 0, .int .i64 0, .int .i64 0, .int .u64 0, .int .u64 0] #[.int .i64 s.opn, .int .i64 s.view, .int .i64 s.under, .int .u64 (s.parent : Int), .int .u64 (s.sum : Int)] rfl rfl (Row.new _ _ _) ?_ (hid rfl) (hid rfl) (hid (stcells_one s)); intro w4 hrs HB4; replace hri := (hri.alloc (.cells #[.int .i64 0, .int .i64 0, .int .i64 0, .int .u64 0, .int .u64 0] 26)).grown HB4 (by have := hri.lt; intro e; have := Option.some.inj e; omega); replace hre := (hre.alloc (.cells #[.int .i64 0, .int .i64 0, .int .i64 0, .int .u64 0, .int .u64 0] 26)).grown HB4 (by have := hre.lt; intro e; have := Option.some.inj e; omega); replace hbe := (hbe.alloc hbe.size (.cells #[.int .i64 0, .int .i64 0, .int .i64 0, .int .u64 0, .int .u64 0] 26)).trans (below_grown HB4 hbe.size (by have := hbe.size; simp; omega)); have he1 := hre.at_ 1 _ rfl; have hs0 := hrs.at_ 0 _ rfl)
    | ((with_reducible show wpList _ _ _ ({ dst := none, op := .store _ (.tmp 6) (.tmp 61), type := _, pos := _, after := _, guard := _ } :: _) _ _); refine wpl_store_st rfl (.tmp 6) (.tmp 61) rfl (n := 15) HZI.out w.heap.size #[.int .i64 0, .int .i64 0, .int .i64 0, .int .i64 0, .int .u64 0, .int .u64 0, .int .i64 0, .int .i64 0, .int .i64 0, .int .u64 0, .int .i64 0, .int .i64 0, .int .i64 0, .int .i64 0, .string ⟨#[]⟩] #[.int .i64 0, .int .i64 0, .int .i64 0, .int .i64 0, .int .u64 0, .int .u64 0, .int .i64 0, .int .i64 0, .int .i64 0, .int .u64 0, .int .i64 0, .int .i64 0, .int .i64 0, .int .i64 0, .string ⟨#[]⟩] rfl rfl hri ?_ (hid rfl) (hid rfl) (hid (by simp [Value.oneCell'])); intro w7 hr7 HB7))
  exact bodyPost_ret (v := .agg #[.int .i64 0, .int .i64 0, .int .i64 0, .int .i64 0, .int .u64 0, .int .u64 0, .int .i64 0, .int .i64 0, .int .i64 0, .int .u64 0, .int .i64 0, .int .i64 0, .int .i64 0, .int .i64 0, .string ⟨#[]⟩]) (results_cell_row rfl _ _ w.heap.size 41 #[.int .i64 0, .int .i64 0, .int .i64 0, .int .i64 0, .int .u64 0, .int .u64 0, .int .i64 0, .int .i64 0, .int .i64 0, .int .u64 0, .int .i64 0, .int .i64 0, .int .i64 0, .int .i64 0, .string ⟨#[]⟩] (0, 0) _ rfl (Row.arr (cs := #[.int .i64 0, .int .i64 0, .int .i64 0, .int .i64 0, .int .u64 0, .int .u64 0, .int .i64 0, .int .i64 0, .int .i64 0, .int .u64 0, .int .i64 0, .int .i64 0, .int .i64 0, .int .i64 0, .string ⟨#[]⟩]) hr7) Tryd.underlying41 rfl HZI.out) rfl ⟨rfl, hbe.trans (below_grown HB7 (Nat.le_refl _) hbe.size)⟩
set_option maxHeartbeats 2000000 in
theorem rjudge_9 (p h : ByteArray) (n : Int) (e : En) (s t : St) (bk br : Bool) (w : World) 
    (HE : Hid (∀ W : World, Calls Tryd.prog 22 #[.string p] W (LQ W #[.int .i64 e.view, .int .i64 e.opn, .int .i64 e.under, .int .u64 (e.parent : Int), .int .i64 e.client, .int .i64 e.session, .int .i64 e.request, .int .i64 e.oper, .string e.body] false true)))
    (HS : Hid (∀ W : World, Calls Tryd.prog 23 #[.string h] W (LQ W #[.int .i64 s.opn, .int .i64 s.view, .int .i64 s.under, .int .u64 (s.parent : Int), .int .u64 (s.sum : Int)] false false)))
    (HT : Hid (∀ W : World, Calls Tryd.prog 17 #[.agg #[.int .i64 e.view, .int .i64 e.opn, .int .i64 e.under, .int .u64 (e.parent : Int), .int .i64 e.client, .int .i64 e.session, .int .i64 e.request, .int .i64 e.oper, .string e.body]] W (VE W (.agg #[.int .i64 t.opn, .int .i64 t.view, .int .i64 t.under, .int .u64 (t.parent : Int), .int .u64 (t.sum : Int)])))) :
    Calls Tryd.prog 25 #[.string p, .string h, .int .i64 n] w (VE w (⟨0, st0, en0⟩ : It).val) := by
  have qq : True := (fun _ _ _ => trivial) bk br HT
  clear qq
  have HZE := hid esize
  have HZS := hid stsize
  have HZI := hid isize
  go_enter Tryd.func25, Tryd.ntmps25
  go_wp2_with (first
    | (go_at_call 22; refine (HE.out _).mono ?_; rintro x w1 ⟨rfl, hb1⟩; have hri := (Row.new w 41 #[.int .i64 0, .int .i64 0, .int .i64 0, .int .i64 0, .int .u64 0, .int .u64 0, .int .i64 0, .int .i64 0, .int .i64 0, .int .u64 0, .int .i64 0, .int .i64 0, .int .i64 0, .int .i64 0, .string ⟨#[]⟩]).below hb1 (by simp); have hbe := ((Below.refl w.heap.size w).alloc (Nat.le_refl _) (.cells #[.int .i64 0, .int .i64 0, .int .i64 0, .int .i64 0, .int .u64 0, .int .u64 0, .int .i64 0, .int .i64 0, .int .i64 0, .int .u64 0, .int .i64 0, .int .i64 0, .int .i64 0, .int .i64 0, .string ⟨#[]⟩] 41)).trans (hb1.mono (by simp)))
    | ((with_reducible show wpList _ _ _ ({ dst := none, op := .store _ (.tmp 7) (.tmp 16), type := _, pos := _, after := _, guard := _ } :: _) _ _); refine wpl_store_st rfl (.tmp 7) (.tmp 16) rfl (n := 9) HZE.out w1.heap.size #[.int .i64 0, .int .i64 0, .int .i64 0, .int .u64 0, .int .i64 0, .int .i64 0, .int .i64 0, .int .i64 0, .string ⟨#[]⟩] #[.int .i64 e.view, .int .i64 e.opn, .int .i64 e.under, .int .u64 (e.parent : Int), .int .i64 e.client, .int .i64 e.session, .int .i64 e.request, .int .i64 e.oper, .string e.body] rfl rfl (Row.new _ _ _) ?_ (hid rfl) (hid rfl) (hid (ecells_one e)); intro w2 hre HB2; replace hri := (hri.alloc (.cells #[.int .i64 0, .int .i64 0, .int .i64 0, .int .u64 0, .int .i64 0, .int .i64 0, .int .i64 0, .int .i64 0, .string ⟨#[]⟩] 24)).grown HB2 (by have := hri.lt; intro e; have := Option.some.inj e; omega); replace hbe := (hbe.alloc hbe.size (.cells #[.int .i64 0, .int .i64 0, .int .i64 0, .int .u64 0, .int .i64 0, .int .i64 0, .int .i64 0, .int .i64 0, .string ⟨#[]⟩] 24)).trans (below_grown HB2 hbe.size (by have := hbe.size; simp; omega)))
    | (go_at_call 23; refine (HS.out _).mono ?_; rintro x w3 ⟨rfl, hb3⟩; replace hri := hri.below hb3 hri.lt; replace hre := hre.below hb3 hre.lt; replace hbe := hbe.trans (hb3.mono hbe.size))
    | ((with_reducible show wpList _ _ _ ({ dst := none, op := .store _ (.tmp 10) (.tmp 22), type := _, pos := _, after := _, guard := _ } :: _) _ _); refine wpl_store_st rfl (.tmp 10) (.tmp 22) rfl (n := 5) HZS.out w3.heap.size #[.int .i64 0, .int .i64 0, .int .i64 0, .int .u64 0, .int .u64 0] #[.int .i64 s.opn, .int .i64 s.view, .int .i64 s.under, .int .u64 (s.parent : Int), .int .u64 (s.sum : Int)] rfl rfl (Row.new _ _ _) ?_ (hid rfl) (hid rfl) (hid (stcells_one s)); intro w4 hrs HB4; replace hri := (hri.alloc (.cells #[.int .i64 0, .int .i64 0, .int .i64 0, .int .u64 0, .int .u64 0] 26)).grown HB4 (by have := hri.lt; intro e; have := Option.some.inj e; omega); replace hre := (hre.alloc (.cells #[.int .i64 0, .int .i64 0, .int .i64 0, .int .u64 0, .int .u64 0] 26)).grown HB4 (by have := hre.lt; intro e; have := Option.some.inj e; omega); replace hbe := (hbe.alloc hbe.size (.cells #[.int .i64 0, .int .i64 0, .int .i64 0, .int .u64 0, .int .u64 0] 26)).trans (below_grown HB4 hbe.size (by have := hbe.size; simp; omega)); have he1 := hre.at_ 1 _ rfl; have hs0 := hrs.at_ 0 _ rfl)
    | ((with_reducible show wpList _ _ _ ({ dst := none, op := .store _ (.tmp 6) (.tmp 61), type := _, pos := _, after := _, guard := _ } :: _) _ _); refine wpl_store_st rfl (.tmp 6) (.tmp 61) rfl (n := 15) HZI.out w.heap.size #[.int .i64 0, .int .i64 0, .int .i64 0, .int .i64 0, .int .u64 0, .int .u64 0, .int .i64 0, .int .i64 0, .int .i64 0, .int .u64 0, .int .i64 0, .int .i64 0, .int .i64 0, .int .i64 0, .string ⟨#[]⟩] #[.int .i64 0, .int .i64 0, .int .i64 0, .int .i64 0, .int .u64 0, .int .u64 0, .int .i64 0, .int .i64 0, .int .i64 0, .int .u64 0, .int .i64 0, .int .i64 0, .int .i64 0, .int .i64 0, .string ⟨#[]⟩] rfl rfl hri ?_ (hid rfl) (hid rfl) (hid (by simp [Value.oneCell'])); intro w7 hr7 HB7))
  exact bodyPost_ret (v := .agg #[.int .i64 0, .int .i64 0, .int .i64 0, .int .i64 0, .int .u64 0, .int .u64 0, .int .i64 0, .int .i64 0, .int .i64 0, .int .u64 0, .int .i64 0, .int .i64 0, .int .i64 0, .int .i64 0, .string ⟨#[]⟩]) (results_cell_row rfl _ _ w.heap.size 41 #[.int .i64 0, .int .i64 0, .int .i64 0, .int .i64 0, .int .u64 0, .int .u64 0, .int .i64 0, .int .i64 0, .int .i64 0, .int .u64 0, .int .i64 0, .int .i64 0, .int .i64 0, .int .i64 0, .string ⟨#[]⟩] (0, 0) _ rfl (Row.arr (cs := #[.int .i64 0, .int .i64 0, .int .i64 0, .int .i64 0, .int .u64 0, .int .u64 0, .int .i64 0, .int .i64 0, .int .i64 0, .int .u64 0, .int .i64 0, .int .i64 0, .int .i64 0, .int .i64 0, .string ⟨#[]⟩]) hr7) Tryd.underlying41 rfl HZI.out) rfl ⟨rfl, hbe.trans (below_grown HB7 (Nat.le_refl _) hbe.size)⟩
theorem rjudge_any (p h : ByteArray) (n : Int) (w : World) : Calls Tryd.prog 25 #[.string p, .string h, .int .i64 n] w (VE w (judgeS (sb p) (sb h) n).val) := by
  have HE := hid (fun W => rentry_any p W)
  have HS := hid (fun W => rstubT_any h W)
  have HT := hid (fun W => rstub_any (entryS (sb p)).1 (entryS_fits _) W)
  have r1 := entryS_read (sb p)
  have r2 := stubT_read (sb h)
  have r3 := entryS_none (sb p)
  have r4 := stubT_rt (sb h)
  unfold judgeS
  generalize entryS (sb p) = E at *
  generalize stubT (sb h) = T at *
  obtain ⟨e, kept, readp⟩ := E
  obtain ⟨s, noted, readh⟩ := T
  simp only at *
  have r5 : kept = false → noted = true → stubS e ≠ s := fun a b q => by
    have h1 := r3 a
    subst h1
    have h2 : stubS en0 = st0 := if_neg (by unfold Rt en0; simp)
    rw [h2] at q
    subst q
    exact st0_not (r4 b)
  generalize stubS e = t at *
  cases noted
  · rw [if_neg (by simp), if_neg (by simp)]
    cases readh
    · rw [if_neg (by simp)]
      cases kept
      · rw [if_neg (by simp)]
        cases readp
        · rw [if_neg (by simp)]
          exact rjudge_6 p h n e s t false false w HE HS HT
        · rw [if_pos rfl]
          exact rjudge_9 p h n e s t false false w HE HS HT
      · rw [r1 rfl] at HE ⊢
        by_cases hn : e.opn = n
        · rw [if_pos ⟨rfl, hn⟩]
          exact rjudge_7 p h n e s t false false w (by simpa using hn) HE HS HT
        · rw [if_neg (fun q => hn q.2), if_pos rfl]
          exact rjudge_8 p h n e s t false false w (by simpa using hn) HE HS HT
    · rw [if_pos rfl]
      exact rjudge_5 p h n e s t kept readp w HE HS HT
  · rw [r2 rfl] at HS ⊢
    by_cases hn : s.opn = n
    · by_cases hq : t = s
      · rw [if_pos ⟨rfl, hn, hq⟩]
        cases kept
        · exact absurd hq (r5 rfl rfl)
        · have h1 := rjudge_1 p h n e s t false readp w (by simpa using hn) (hid (by simpa using hq)) HE HS HT
          rw [hq]
          exact h1
      · rw [if_neg (fun q => hq q.2.2), if_pos ⟨rfl, hn⟩]
        cases kept
        · exact rjudge_3 p h n e s t false readp w (by simpa using hn) HE HS HT
        · exact rjudge_2 p h n e s t false readp w (by simpa using hn) (hid (by simpa using hq)) HE HS HT
    · rw [if_neg (fun q => hn q.2.1), if_neg (fun q => hn q.2), if_pos rfl]
      exact rjudge_4 p h n e s t kept readp w (by simpa using hn) HE HS HT
end Go.Proofs.YtdcoiehhnllhmaaDoor
