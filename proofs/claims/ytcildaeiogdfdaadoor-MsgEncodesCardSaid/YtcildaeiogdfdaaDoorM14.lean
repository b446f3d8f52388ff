/-
  The walks of StubOf, package slot's and the document's.
-/
import Derived.Test.YtcildaeiogdfdaaDoorM12
import Derived.Test.YtcildaeiogdfdaaDoorM03
import Derived.Test.YtcildaeiogdfdaaDoorM05
namespace Go.Proofs.YtcildaeiogdfdaaDoor
open Go.RowKit
set_option maxRecDepth 10000

set_option maxHeartbeats 1000000 in
theorem sstub_no (view opn under : Int) (parent : Nat) (client session request oper : Int) (body : ByteArray) (w : World)
    (HR : Hid (∀ W : World, Calls Tryd.prog 45 #[.agg #[.int .i64 view, .int .i64 opn, .int .i64 under, .int .u64 (parent : Int), .int .i64 client, .int .i64 session, .int .i64 request, .int .i64 oper, .string body]] W (VE W (.bool false)))) :
    Calls Tryd.prog 80 #[.agg #[.int .i64 view, .int .i64 opn, .int .i64 under, .int .u64 (parent : Int), .int .i64 client, .int .i64 session, .int .i64 request, .int .i64 oper, .string body]] w (VE w (.agg #[.int .i64 0, .int .i64 0, .int .i64 0, .int .u64 0, .int .u64 0])) := by
  have HZ := hid esize
  have HZM := hid stsize
  have HB0 : Hid (Below w.heap.size w ((w.alloc (.cells #[.int .i64 view, .int .i64 opn, .int .i64 under, .int .u64 (parent : Int), .int .i64 client, .int .i64 session, .int .i64 request, .int .i64 oper, .string body] 27)).alloc (.cells #[.int .i64 0, .int .i64 0, .int .i64 0, .int .u64 0, .int .u64 0] 44))) := hid (((Below.refl w.heap.size w).alloc (Nat.le_refl _) _).alloc (by simp) _)
  have HE0 : Hid (Row ((w.alloc (.cells #[.int .i64 view, .int .i64 opn, .int .i64 under, .int .u64 (parent : Int), .int .i64 client, .int .i64 session, .int .i64 request, .int .i64 oper, .string body] 27)).alloc (.cells #[.int .i64 0, .int .i64 0, .int .i64 0, .int .u64 0, .int .u64 0] 44)) w.heap.size 27 (#[.int .i64 view, .int .i64 opn, .int .i64 under, .int .u64 (parent : Int), .int .i64 client, .int .i64 session, .int .i64 request, .int .i64 oper, .string body] : Array Value).toList) := hid ((Row.new _ _ _).alloc _)
  have HM0 : Hid (Row ((w.alloc (.cells #[.int .i64 view, .int .i64 opn, .int .i64 under, .int .u64 (parent : Int), .int .i64 client, .int .i64 session, .int .i64 request, .int .i64 oper, .string body] 27)).alloc (.cells #[.int .i64 0, .int .i64 0, .int .i64 0, .int .u64 0, .int .u64 0] 44)) (w.heap.size + 1) 44 (#[.int .i64 0, .int .i64 0, .int .i64 0, .int .u64 0, .int .u64 0] : Array Value).toList) := hid (by
    have := Row.new (w.alloc (.cells #[.int .i64 view, .int .i64 opn, .int .i64 under, .int .u64 (parent : Int), .int .i64 client, .int .i64 session, .int .i64 request, .int .i64 oper, .string body] 27)) 44 #[.int .i64 0, .int .i64 0, .int .i64 0, .int .u64 0, .int .u64 0]
    simpa using this)
  have HW0 : Hid (∃ W0, W0 = (w.alloc (.cells #[.int .i64 view, .int .i64 opn, .int .i64 under, .int .u64 (parent : Int), .int .i64 client, .int .i64 session, .int .i64 request, .int .i64 oper, .string body] 27)).alloc (.cells #[.int .i64 0, .int .i64 0, .int .i64 0, .int .u64 0, .int .u64 0] 44)) := hid ⟨_, rfl⟩
  go_enter Tryd.func80, Tryd.ntmps80
  go_wp2_with (first
    | (refine wpList_load_row rfl 27 (.tmp 1) rfl w.heap.size rfl 27 #[.int .i64 view, .int .i64 opn, .int .i64 under, .int .u64 (parent : Int), .int .i64 client, .int .i64 session, .int .i64 request, .int .i64 oper, .string body] (0, 0) _ (Row.arr (cs := #[.int .i64 view, .int .i64 opn, .int .i64 under, .int .u64 (parent : Int), .int .i64 client, .int .i64 session, .int .i64 request, .int .i64 oper, .string body]) HE0.out) Tryd.underlying27 rfl HZ.out ?_)
    | (go_at_call 45; refine (HR.out _).mono ?_; rintro e w1 ⟨rfl, hb1⟩; have hbb := HB0.out.trans (hb1.mono HB0.out.size); have he := HE0.out.below hb1 HE0.out.lt; have hm := HM0.out.below hb1 HM0.out.lt; clear hb1)
    | (refine wpl_store_st rfl (.tmp 2) (.tmp 6) rfl HZM.out (w.heap.size + 1) #[.int .i64 0, .int .i64 0, .int .i64 0, .int .u64 0, .int .u64 0] #[.int .i64 0, .int .i64 0, .int .i64 0, .int .u64 0, .int .u64 0] rfl rfl hm ?_ (hid rfl) (hid rfl) (hid (by simp [Value.oneCell'])); intro wz hrz hgz; have HBZ := hid (hbb.trans (below_grown hgz (by omega) hbb.size)); clear hgz))
  refine bodyPost_ret (v := .agg #[.int .i64 0, .int .i64 0, .int .i64 0, .int .u64 0, .int .u64 0])
    (results_cell_row rfl _ _ (w.heap.size + 1) 44 _ (0, 0) _ rfl (Row.arr (cs := #[.int .i64 0, .int .i64 0, .int .i64 0, .int .u64 0, .int .u64 0]) hrz) Tryd.underlying44 rfl HZM.out) rfl ⟨rfl, HBZ.out⟩
set_option maxHeartbeats 2000000 in
theorem sstub_yes (view opn under : Int) (parent : Nat) (client session request oper : Int) (body : ByteArray) (q : Nat) (w : World) (hf : Fd w)
    (HR : Hid (∀ W : World, Calls Tryd.prog 45 #[.agg #[.int .i64 view, .int .i64 opn, .int .i64 under, .int .u64 (parent : Int), .int .i64 client, .int .i64 session, .int .i64 request, .int .i64 oper, .string body]] W (VE W (.bool true))))
    (HK : Hid (∀ W : World, Fd W → Calls Tryd.prog 92 #[.agg #[.int .i64 view, .int .i64 opn, .int .i64 under, .int .u64 (parent : Int), .int .i64 client, .int .i64 session, .int .i64 request, .int .i64 oper, .string body]] W (VE W (.agg #[.int .i64 opn, .int .i64 view, .int .u64 (q : Int)])))) :
    Calls Tryd.prog 80 #[.agg #[.int .i64 view, .int .i64 opn, .int .i64 under, .int .u64 (parent : Int), .int .i64 client, .int .i64 session, .int .i64 request, .int .i64 oper, .string body]] w (VE w (.agg #[.int .i64 opn, .int .i64 view, .int .i64 under, .int .u64 (parent : Int), .int .u64 (q : Int)])) := by
  have HZ := hid esize
  have HZM := hid stsize
  have HB0 : Hid (Below w.heap.size w ((w.alloc (.cells #[.int .i64 view, .int .i64 opn, .int .i64 under, .int .u64 (parent : Int), .int .i64 client, .int .i64 session, .int .i64 request, .int .i64 oper, .string body] 27)).alloc (.cells #[.int .i64 0, .int .i64 0, .int .i64 0, .int .u64 0, .int .u64 0] 44))) := hid (((Below.refl w.heap.size w).alloc (Nat.le_refl _) _).alloc (by simp) _)
  have HE0 : Hid (Row ((w.alloc (.cells #[.int .i64 view, .int .i64 opn, .int .i64 under, .int .u64 (parent : Int), .int .i64 client, .int .i64 session, .int .i64 request, .int .i64 oper, .string body] 27)).alloc (.cells #[.int .i64 0, .int .i64 0, .int .i64 0, .int .u64 0, .int .u64 0] 44)) w.heap.size 27 (#[.int .i64 view, .int .i64 opn, .int .i64 under, .int .u64 (parent : Int), .int .i64 client, .int .i64 session, .int .i64 request, .int .i64 oper, .string body] : Array Value).toList) := hid ((Row.new _ _ _).alloc _)
  have HM0 : Hid (Row ((w.alloc (.cells #[.int .i64 view, .int .i64 opn, .int .i64 under, .int .u64 (parent : Int), .int .i64 client, .int .i64 session, .int .i64 request, .int .i64 oper, .string body] 27)).alloc (.cells #[.int .i64 0, .int .i64 0, .int .i64 0, .int .u64 0, .int .u64 0] 44)) (w.heap.size + 1) 44 (#[.int .i64 0, .int .i64 0, .int .i64 0, .int .u64 0, .int .u64 0] : Array Value).toList) := hid (by
    have := Row.new (w.alloc (.cells #[.int .i64 view, .int .i64 opn, .int .i64 under, .int .u64 (parent : Int), .int .i64 client, .int .i64 session, .int .i64 request, .int .i64 oper, .string body] 27)) 44 #[.int .i64 0, .int .i64 0, .int .i64 0, .int .u64 0, .int .u64 0]
    simpa using this)
  have HW0 : Hid (∃ W0, W0 = (w.alloc (.cells #[.int .i64 view, .int .i64 opn, .int .i64 under, .int .u64 (parent : Int), .int .i64 client, .int .i64 session, .int .i64 request, .int .i64 oper, .string body] 27)).alloc (.cells #[.int .i64 0, .int .i64 0, .int .i64 0, .int .u64 0, .int .u64 0] 44)) := hid ⟨_, rfl⟩
  have HF := hid hf
  clear hf
  go_enter Tryd.func80, Tryd.ntmps80
  go_wp2_with (first
    | (refine wpList_load_row rfl 27 (.tmp 1) rfl w.heap.size rfl 27 #[.int .i64 view, .int .i64 opn, .int .i64 under, .int .u64 (parent : Int), .int .i64 client, .int .i64 session, .int .i64 request, .int .i64 oper, .string body] (0, 0) _ (Row.arr (cs := #[.int .i64 view, .int .i64 opn, .int .i64 under, .int .u64 (parent : Int), .int .i64 client, .int .i64 session, .int .i64 request, .int .i64 oper, .string body]) HE0.out) Tryd.underlying27 rfl HZ.out ?_)
    | (go_at_call 45; refine (HR.out _).mono ?_; rintro e w1 ⟨rfl, hb1⟩; have hbb := HB0.out.trans (hb1.mono HB0.out.size); have he := HE0.out.below hb1 HE0.out.lt; have hm := HM0.out.below hb1 HM0.out.lt; clear hb1))
  try simp only [Act.put]
  have HBB := hid hbb
  have HEB := hid he
  have HMB := hid hm
  clear hbb he hm
  refine wp_region_held_drew (S := fun W => Below w.heap.size w W ∧ Row W w.heap.size 27 (#[.int .i64 view, .int .i64 opn, .int .i64 under, .int .u64 (parent : Int), .int .i64 client, .int .i64 session, .int .i64 request, .int .i64 oper, .string body] : Array Value).toList ∧ ∃ z : Array Value, z.size = 5 ∧ Row W (w.heap.size + 1) 44 z.toList) (by kernel_rfl) ⟨HBB.out.drew, HEB.out, #[.int .i64 0, .int .i64 0, .int .i64 0, .int .u64 0, .int .u64 0], rfl, HMB.out⟩ (fun hH => ?_)
  refine wpAnyH_take (i := 0) (v := .pointer (some ⟨w.heap.size, 1, none⟩)) rfl (by kernel_rfl) (by kernel_rfl) (by kernel_rfl) (fun _ _ _ h => h) (Or.inl ⟨by rfl, fun w' hw' => by clear hw'; go_simp⟩) hH ?_
  simp only [Act.put]
  refine wpAnyH_take (i := 1) (v := .int .i64 opn) rfl (by kernel_rfl) (by kernel_rfl) (by kernel_rfl) (fun _ _ _ h => h) (Or.inl ⟨by rfl, fun w' hw' => by have h := hw'.2.1.at_ 1 _ rfl; clear hw'; go_simp⟩) hH ?_
  simp only [Act.put]
  refine wpAnyH_take (i := 2) (v := .pointer (some ⟨w.heap.size, 0, none⟩)) rfl (by kernel_rfl) (by kernel_rfl) (by kernel_rfl) (fun _ _ _ h => h) (Or.inl ⟨by rfl, fun w' hw' => by clear hw'; go_simp⟩) hH ?_
  simp only [Act.put]
  refine wpAnyH_take (i := 3) (v := .int .i64 view) rfl (by kernel_rfl) (by kernel_rfl) (by kernel_rfl) (fun _ _ _ h => h) (Or.inl ⟨by rfl, fun w' hw' => by have h := hw'.2.1.at_ 0 _ rfl; clear hw'; go_simp⟩) hH ?_
  simp only [Act.put]
  refine wpAnyH_take (i := 4) (v := .pointer (some ⟨w.heap.size, 2, none⟩)) rfl (by kernel_rfl) (by kernel_rfl) (by kernel_rfl) (fun _ _ _ h => h) (Or.inl ⟨by rfl, fun w' hw' => by clear hw'; go_simp⟩) hH ?_
  simp only [Act.put]
  refine wpAnyH_take (i := 5) (v := .int .i64 under) rfl (by kernel_rfl) (by kernel_rfl) (by kernel_rfl) (fun _ _ _ h => h) (Or.inl ⟨by rfl, fun w' hw' => by have h := hw'.2.1.at_ 2 _ rfl; clear hw'; go_simp⟩) hH ?_
  simp only [Act.put]
  refine wpAnyH_take (i := 6) (v := .pointer (some ⟨w.heap.size, 3, none⟩)) rfl (by kernel_rfl) (by kernel_rfl) (by kernel_rfl) (fun _ _ _ h => h) (Or.inl ⟨by rfl, fun w' hw' => by clear hw'; go_simp⟩) hH ?_
  simp only [Act.put]
  refine wpAnyH_take (i := 7) (v := .int .u64 (parent : Int)) rfl (by kernel_rfl) (by kernel_rfl) (by kernel_rfl) (fun _ _ _ h => h) (Or.inl ⟨by rfl, fun w' hw' => by have h := hw'.2.1.at_ 3 _ rfl; clear hw'; go_simp⟩) hH ?_
  simp only [Act.put]
  refine wpAnyH_take (i := 8) (v := .agg #[.int .i64 view, .int .i64 opn, .int .i64 under, .int .u64 (parent : Int), .int .i64 client, .int .i64 session, .int .i64 request, .int .i64 oper, .string body]) rfl (by kernel_rfl) (by kernel_rfl) (by kernel_rfl) (fun _ _ _ h => h) ?_ hH ?_
  · refine yieldsIf_load_mid ?_ 27 (.tmp 1) ?_ w.heap.size 0 ?_ (Array.toList #[.int .i64 view, .int .i64 opn, .int .i64 under, .int .u64 (parent : Int), .int .i64 client, .int .i64 session, .int .i64 request, .int .i64 oper, .string body]) _ (fun W hW => Row.range (hW.2.1)) Tryd.underlying27 rfl HZ.out
    all_goals kernel_rfl
  simp only [Act.put]
  refine wpAnyH_ready (rs := [9]) (by kernel_rfl) (by simp) ?_
  refine AllReadyH.cons rfl (fun K hK => ?_) AllReadyH.nil
  go_simp
  go_at_call 92
  refine (HK.out _ (HF.out.below hH.1 HF.out.1)).mono ?_
  rintro e w2 ⟨rfl, hb2⟩
  go_wp2_with fail
  refine hK.out _ _ (⟨hH.1.trans (Below.mono hb2 hH.1.size), Row.below hH.2.1 hb2 hH.2.1.lt, hH.2.2.elim fun z h => ⟨z, h.1, Row.below h.2 hb2 h.2.lt⟩⟩) (fun hH => ?_)
  clear hK K
  try simp only [Act.put]
  refine wpAnyH_take (i := 10) (v := .int .u64 (q : Int)) rfl (by kernel_rfl) (by kernel_rfl) (by kernel_rfl) (fun _ _ _ h => h) (Or.inl ⟨by kernel_rfl, fun w' _ => by kernel_rfl⟩) hH ?_
  simp only [Act.put]
  refine wpAnyH_take (i := 11) (v := .agg #[.int .i64 opn, .int .i64 view, .int .i64 under, .int .u64 (parent : Int), .int .u64 (q : Int)]) rfl (by kernel_rfl) (by kernel_rfl) (by kernel_rfl) (fun _ _ _ h => h) (Or.inl ⟨by rfl, fun w' hw' => by clear hw'; go_simp⟩) hH ?_
  simp only [Act.put]
  refine wpAnyH_ready (rs := [12]) (by kernel_rfl) (by simp) ?_
  refine AllReadyH.cons rfl (fun K hK => ?_) AllReadyH.nil
  obtain ⟨hb8, he8, z, hz8, hm8⟩ := hH
  rw [if_pos (by kernel_rfl)]
  refine wp_store_st (.tmp 2) (.tmp 18) rfl HZM.out (w.heap.size + 1) z #[.int .i64 opn, .int .i64 view, .int .i64 under, .int .u64 (parent : Int), .int .u64 (q : Int)] rfl rfl hm8 hz8 rfl (by simp [Value.oneCell']) (fun w9 hr9 hg9 => ?_)
  have hb9 : Below w.heap.size w w9 := hb8.trans (below_grown hg9 (by omega) hb8.size)
  refine hK.out _ _ ⟨hb9, he8.grown hg9 (by intro e; have := Option.some.inj e; omega), _, rfl, hr9⟩ (fun hH => ?_)
  clear hK K
  try simp only [Act.put]
  refine wpAnyH_done (by kernel_rfl) ?_ _
  try simp only [Act.put]
  go_wp2_with fail
  refine bodyPost_ret (v := .agg #[.int .i64 opn, .int .i64 view, .int .i64 under, .int .u64 (parent : Int), .int .u64 (q : Int)])
    (results_cell_row rfl _ _ (w.heap.size + 1) 44 _ (0, 0) _ rfl (Row.arr (cs := #[.int .i64 opn, .int .i64 view, .int .i64 under, .int .u64 (parent : Int), .int .u64 (q : Int)]) hr9) Tryd.underlying44 rfl HZM.out) rfl ⟨rfl, hb9⟩
set_option maxHeartbeats 1000000 in
theorem rstub_no (view opn under : Int) (parent : Nat) (client session request oper : Int) (body : ByteArray) (w : World)
    (HR : Hid (∀ W : World, Calls Tryd.prog 25 #[.agg #[.int .i64 view, .int .i64 opn, .int .i64 under, .int .u64 (parent : Int), .int .i64 client, .int .i64 session, .int .i64 request, .int .i64 oper, .string body]] W (VE W (.bool false)))) :
    Calls Tryd.prog 51 #[.agg #[.int .i64 view, .int .i64 opn, .int .i64 under, .int .u64 (parent : Int), .int .i64 client, .int .i64 session, .int .i64 request, .int .i64 oper, .string body]] w (VE w (.agg #[.int .i64 0, .int .i64 0, .int .i64 0, .int .u64 0, .int .u64 0])) := by
  have HZ := hid esize
  have HZM := hid stsize
  have HB0 : Hid (Below w.heap.size w ((w.alloc (.cells #[.int .i64 view, .int .i64 opn, .int .i64 under, .int .u64 (parent : Int), .int .i64 client, .int .i64 session, .int .i64 request, .int .i64 oper, .string body] 27)).alloc (.cells #[.int .i64 0, .int .i64 0, .int .i64 0, .int .u64 0, .int .u64 0] 44))) := hid (((Below.refl w.heap.size w).alloc (Nat.le_refl _) _).alloc (by simp) _)
  have HE0 : Hid (Row ((w.alloc (.cells #[.int .i64 view, .int .i64 opn, .int .i64 under, .int .u64 (parent : Int), .int .i64 client, .int .i64 session, .int .i64 request, .int .i64 oper, .string body] 27)).alloc (.cells #[.int .i64 0, .int .i64 0, .int .i64 0, .int .u64 0, .int .u64 0] 44)) w.heap.size 27 (#[.int .i64 view, .int .i64 opn, .int .i64 under, .int .u64 (parent : Int), .int .i64 client, .int .i64 session, .int .i64 request, .int .i64 oper, .string body] : Array Value).toList) := hid ((Row.new _ _ _).alloc _)
  have HM0 : Hid (Row ((w.alloc (.cells #[.int .i64 view, .int .i64 opn, .int .i64 under, .int .u64 (parent : Int), .int .i64 client, .int .i64 session, .int .i64 request, .int .i64 oper, .string body] 27)).alloc (.cells #[.int .i64 0, .int .i64 0, .int .i64 0, .int .u64 0, .int .u64 0] 44)) (w.heap.size + 1) 44 (#[.int .i64 0, .int .i64 0, .int .i64 0, .int .u64 0, .int .u64 0] : Array Value).toList) := hid (by
    have := Row.new (w.alloc (.cells #[.int .i64 view, .int .i64 opn, .int .i64 under, .int .u64 (parent : Int), .int .i64 client, .int .i64 session, .int .i64 request, .int .i64 oper, .string body] 27)) 44 #[.int .i64 0, .int .i64 0, .int .i64 0, .int .u64 0, .int .u64 0]
    simpa using this)
  have HW0 : Hid (∃ W0, W0 = (w.alloc (.cells #[.int .i64 view, .int .i64 opn, .int .i64 under, .int .u64 (parent : Int), .int .i64 client, .int .i64 session, .int .i64 request, .int .i64 oper, .string body] 27)).alloc (.cells #[.int .i64 0, .int .i64 0, .int .i64 0, .int .u64 0, .int .u64 0] 44)) := hid ⟨_, rfl⟩
  go_enter Tryd.func51, Tryd.ntmps51
  go_wp2_with (first
    | (refine wpList_load_row rfl 27 (.tmp 1) rfl w.heap.size rfl 27 #[.int .i64 view, .int .i64 opn, .int .i64 under, .int .u64 (parent : Int), .int .i64 client, .int .i64 session, .int .i64 request, .int .i64 oper, .string body] (0, 0) _ (Row.arr (cs := #[.int .i64 view, .int .i64 opn, .int .i64 under, .int .u64 (parent : Int), .int .i64 client, .int .i64 session, .int .i64 request, .int .i64 oper, .string body]) HE0.out) Tryd.underlying27 rfl HZ.out ?_)
    | (go_at_call 25; refine (HR.out _).mono ?_; rintro e w1 ⟨rfl, hb1⟩; have hbb := HB0.out.trans (hb1.mono HB0.out.size); have he := HE0.out.below hb1 HE0.out.lt; have hm := HM0.out.below hb1 HM0.out.lt; clear hb1)
    | (refine wpl_store_st rfl (.tmp 2) (.tmp 6) rfl HZM.out (w.heap.size + 1) #[.int .i64 0, .int .i64 0, .int .i64 0, .int .u64 0, .int .u64 0] #[.int .i64 0, .int .i64 0, .int .i64 0, .int .u64 0, .int .u64 0] rfl rfl hm ?_ (hid rfl) (hid rfl) (hid (by simp [Value.oneCell'])); intro wz hrz hgz; have HBZ := hid (hbb.trans (below_grown hgz (by omega) hbb.size)); clear hgz))
  refine bodyPost_ret (v := .agg #[.int .i64 0, .int .i64 0, .int .i64 0, .int .u64 0, .int .u64 0])
    (results_cell_row rfl _ _ (w.heap.size + 1) 44 _ (0, 0) _ rfl (Row.arr (cs := #[.int .i64 0, .int .i64 0, .int .i64 0, .int .u64 0, .int .u64 0]) hrz) Tryd.underlying44 rfl HZM.out) rfl ⟨rfl, HBZ.out⟩
set_option maxHeartbeats 2000000 in
theorem rstub_yes (view opn under : Int) (parent : Nat) (client session request oper : Int) (body : ByteArray) (q : Nat) (w : World)
    (HR : Hid (∀ W : World, Calls Tryd.prog 25 #[.agg #[.int .i64 view, .int .i64 opn, .int .i64 under, .int .u64 (parent : Int), .int .i64 client, .int .i64 session, .int .i64 request, .int .i64 oper, .string body]] W (VE W (.bool true))))
    (HK : Hid (∀ W : World, Calls Tryd.prog 75 #[.agg #[.int .i64 view, .int .i64 opn, .int .i64 under, .int .u64 (parent : Int), .int .i64 client, .int .i64 session, .int .i64 request, .int .i64 oper, .string body]] W (VE W (.agg #[.int .i64 opn, .int .i64 view, .int .u64 (q : Int)])))) :
    Calls Tryd.prog 51 #[.agg #[.int .i64 view, .int .i64 opn, .int .i64 under, .int .u64 (parent : Int), .int .i64 client, .int .i64 session, .int .i64 request, .int .i64 oper, .string body]] w (VE w (.agg #[.int .i64 opn, .int .i64 view, .int .i64 under, .int .u64 (parent : Int), .int .u64 (q : Int)])) := by
  have HZ := hid esize
  have HZM := hid stsize
  have HB0 : Hid (Below w.heap.size w ((w.alloc (.cells #[.int .i64 view, .int .i64 opn, .int .i64 under, .int .u64 (parent : Int), .int .i64 client, .int .i64 session, .int .i64 request, .int .i64 oper, .string body] 27)).alloc (.cells #[.int .i64 0, .int .i64 0, .int .i64 0, .int .u64 0, .int .u64 0] 44))) := hid (((Below.refl w.heap.size w).alloc (Nat.le_refl _) _).alloc (by simp) _)
  have HE0 : Hid (Row ((w.alloc (.cells #[.int .i64 view, .int .i64 opn, .int .i64 under, .int .u64 (parent : Int), .int .i64 client, .int .i64 session, .int .i64 request, .int .i64 oper, .string body] 27)).alloc (.cells #[.int .i64 0, .int .i64 0, .int .i64 0, .int .u64 0, .int .u64 0] 44)) w.heap.size 27 (#[.int .i64 view, .int .i64 opn, .int .i64 under, .int .u64 (parent : Int), .int .i64 client, .int .i64 session, .int .i64 request, .int .i64 oper, .string body] : Array Value).toList) := hid ((Row.new _ _ _).alloc _)
  have HM0 : Hid (Row ((w.alloc (.cells #[.int .i64 view, .int .i64 opn, .int .i64 under, .int .u64 (parent : Int), .int .i64 client, .int .i64 session, .int .i64 request, .int .i64 oper, .string body] 27)).alloc (.cells #[.int .i64 0, .int .i64 0, .int .i64 0, .int .u64 0, .int .u64 0] 44)) (w.heap.size + 1) 44 (#[.int .i64 0, .int .i64 0, .int .i64 0, .int .u64 0, .int .u64 0] : Array Value).toList) := hid (by
    have := Row.new (w.alloc (.cells #[.int .i64 view, .int .i64 opn, .int .i64 under, .int .u64 (parent : Int), .int .i64 client, .int .i64 session, .int .i64 request, .int .i64 oper, .string body] 27)) 44 #[.int .i64 0, .int .i64 0, .int .i64 0, .int .u64 0, .int .u64 0]
    simpa using this)
  have HW0 : Hid (∃ W0, W0 = (w.alloc (.cells #[.int .i64 view, .int .i64 opn, .int .i64 under, .int .u64 (parent : Int), .int .i64 client, .int .i64 session, .int .i64 request, .int .i64 oper, .string body] 27)).alloc (.cells #[.int .i64 0, .int .i64 0, .int .i64 0, .int .u64 0, .int .u64 0] 44)) := hid ⟨_, rfl⟩
  go_enter Tryd.func51, Tryd.ntmps51
  go_wp2_with (first
    | (refine wpList_load_row rfl 27 (.tmp 1) rfl w.heap.size rfl 27 #[.int .i64 view, .int .i64 opn, .int .i64 under, .int .u64 (parent : Int), .int .i64 client, .int .i64 session, .int .i64 request, .int .i64 oper, .string body] (0, 0) _ (Row.arr (cs := #[.int .i64 view, .int .i64 opn, .int .i64 under, .int .u64 (parent : Int), .int .i64 client, .int .i64 session, .int .i64 request, .int .i64 oper, .string body]) HE0.out) Tryd.underlying27 rfl HZ.out ?_)
    | (go_at_call 25; refine (HR.out _).mono ?_; rintro e w1 ⟨rfl, hb1⟩; have hbb := HB0.out.trans (hb1.mono HB0.out.size); have he := HE0.out.below hb1 HE0.out.lt; have hm := HM0.out.below hb1 HM0.out.lt; clear hb1))
  try simp only [Act.put]
  have HBB := hid hbb
  have HEB := hid he
  have HMB := hid hm
  clear hbb he hm
  refine wp_region_held_drew (S := fun W => Below w.heap.size w W ∧ Row W w.heap.size 27 (#[.int .i64 view, .int .i64 opn, .int .i64 under, .int .u64 (parent : Int), .int .i64 client, .int .i64 session, .int .i64 request, .int .i64 oper, .string body] : Array Value).toList ∧ ∃ z : Array Value, z.size = 5 ∧ Row W (w.heap.size + 1) 44 z.toList) (by kernel_rfl) ⟨HBB.out.drew, HEB.out, #[.int .i64 0, .int .i64 0, .int .i64 0, .int .u64 0, .int .u64 0], rfl, HMB.out⟩ (fun hH => ?_)
  refine wpAnyH_take (i := 0) (v := .pointer (some ⟨w.heap.size, 1, none⟩)) rfl (by kernel_rfl) (by kernel_rfl) (by kernel_rfl) (fun _ _ _ h => h) (Or.inl ⟨by rfl, fun w' hw' => by clear hw'; go_simp⟩) hH ?_
  simp only [Act.put]
  refine wpAnyH_take (i := 1) (v := .int .i64 opn) rfl (by kernel_rfl) (by kernel_rfl) (by kernel_rfl) (fun _ _ _ h => h) (Or.inl ⟨by rfl, fun w' hw' => by have h := hw'.2.1.at_ 1 _ rfl; clear hw'; go_simp⟩) hH ?_
  simp only [Act.put]
  refine wpAnyH_take (i := 2) (v := .pointer (some ⟨w.heap.size, 0, none⟩)) rfl (by kernel_rfl) (by kernel_rfl) (by kernel_rfl) (fun _ _ _ h => h) (Or.inl ⟨by rfl, fun w' hw' => by clear hw'; go_simp⟩) hH ?_
  simp only [Act.put]
  refine wpAnyH_take (i := 3) (v := .int .i64 view) rfl (by kernel_rfl) (by kernel_rfl) (by kernel_rfl) (fun _ _ _ h => h) (Or.inl ⟨by rfl, fun w' hw' => by have h := hw'.2.1.at_ 0 _ rfl; clear hw'; go_simp⟩) hH ?_
  simp only [Act.put]
  refine wpAnyH_take (i := 4) (v := .pointer (some ⟨w.heap.size, 2, none⟩)) rfl (by kernel_rfl) (by kernel_rfl) (by kernel_rfl) (fun _ _ _ h => h) (Or.inl ⟨by rfl, fun w' hw' => by clear hw'; go_simp⟩) hH ?_
  simp only [Act.put]
  refine wpAnyH_take (i := 5) (v := .int .i64 under) rfl (by kernel_rfl) (by kernel_rfl) (by kernel_rfl) (fun _ _ _ h => h) (Or.inl ⟨by rfl, fun w' hw' => by have h := hw'.2.1.at_ 2 _ rfl; clear hw'; go_simp⟩) hH ?_
  simp only [Act.put]
  refine wpAnyH_take (i := 6) (v := .pointer (some ⟨w.heap.size, 3, none⟩)) rfl (by kernel_rfl) (by kernel_rfl) (by kernel_rfl) (fun _ _ _ h => h) (Or.inl ⟨by rfl, fun w' hw' => by clear hw'; go_simp⟩) hH ?_
  simp only [Act.put]
  refine wpAnyH_take (i := 7) (v := .int .u64 (parent : Int)) rfl (by kernel_rfl) (by kernel_rfl) (by kernel_rfl) (fun _ _ _ h => h) (Or.inl ⟨by rfl, fun w' hw' => by have h := hw'.2.1.at_ 3 _ rfl; clear hw'; go_simp⟩) hH ?_
  simp only [Act.put]
  refine wpAnyH_take (i := 8) (v := .agg #[.int .i64 view, .int .i64 opn, .int .i64 under, .int .u64 (parent : Int), .int .i64 client, .int .i64 session, .int .i64 request, .int .i64 oper, .string body]) rfl (by kernel_rfl) (by kernel_rfl) (by kernel_rfl) (fun _ _ _ h => h) ?_ hH ?_
  · refine yieldsIf_load_mid ?_ 27 (.tmp 1) ?_ w.heap.size 0 ?_ (Array.toList #[.int .i64 view, .int .i64 opn, .int .i64 under, .int .u64 (parent : Int), .int .i64 client, .int .i64 session, .int .i64 request, .int .i64 oper, .string body]) _ (fun W hW => Row.range (hW.2.1)) Tryd.underlying27 rfl HZ.out
    all_goals kernel_rfl
  simp only [Act.put]
  refine wpAnyH_ready (rs := [9]) (by kernel_rfl) (by simp) ?_
  refine AllReadyH.cons rfl (fun K hK => ?_) AllReadyH.nil
  go_simp
  go_at_call 75
  refine (HK.out _).mono ?_
  rintro e w2 ⟨rfl, hb2⟩
  go_wp2_with fail
  refine hK.out _ _ (⟨hH.1.trans (Below.mono hb2 hH.1.size), Row.below hH.2.1 hb2 hH.2.1.lt, hH.2.2.elim fun z h => ⟨z, h.1, Row.below h.2 hb2 h.2.lt⟩⟩) (fun hH => ?_)
  clear hK K
  try simp only [Act.put]
  refine wpAnyH_take (i := 10) (v := .int .u64 (q : Int)) rfl (by kernel_rfl) (by kernel_rfl) (by kernel_rfl) (fun _ _ _ h => h) (Or.inl ⟨by kernel_rfl, fun w' _ => by kernel_rfl⟩) hH ?_
  simp only [Act.put]
  refine wpAnyH_take (i := 11) (v := .agg #[.int .i64 opn, .int .i64 view, .int .i64 under, .int .u64 (parent : Int), .int .u64 (q : Int)]) rfl (by kernel_rfl) (by kernel_rfl) (by kernel_rfl) (fun _ _ _ h => h) (Or.inl ⟨by rfl, fun w' hw' => by clear hw'; go_simp⟩) hH ?_
  simp only [Act.put]
  refine wpAnyH_ready (rs := [12]) (by kernel_rfl) (by simp) ?_
  refine AllReadyH.cons rfl (fun K hK => ?_) AllReadyH.nil
  obtain ⟨hb8, he8, z, hz8, hm8⟩ := hH
  rw [if_pos (by kernel_rfl)]
  refine wp_store_st (.tmp 2) (.tmp 18) rfl HZM.out (w.heap.size + 1) z #[.int .i64 opn, .int .i64 view, .int .i64 under, .int .u64 (parent : Int), .int .u64 (q : Int)] rfl rfl hm8 hz8 rfl (by simp [Value.oneCell']) (fun w9 hr9 hg9 => ?_)
  have hb9 : Below w.heap.size w w9 := hb8.trans (below_grown hg9 (by omega) hb8.size)
  refine hK.out _ _ ⟨hb9, he8.grown hg9 (by intro e; have := Option.some.inj e; omega), _, rfl, hr9⟩ (fun hH => ?_)
  clear hK K
  try simp only [Act.put]
  refine wpAnyH_done (by kernel_rfl) ?_ _
  try simp only [Act.put]
  go_wp2_with fail
  refine bodyPost_ret (v := .agg #[.int .i64 opn, .int .i64 view, .int .i64 under, .int .u64 (parent : Int), .int .u64 (q : Int)])
    (results_cell_row rfl _ _ (w.heap.size + 1) 44 _ (0, 0) _ rfl (Row.arr (cs := #[.int .i64 opn, .int .i64 view, .int .i64 under, .int .u64 (parent : Int), .int .u64 (q : Int)]) hr9) Tryd.underlying44 rfl HZM.out) rfl ⟨rfl, hb9⟩
theorem sstub_any (e : En) (he : e.fits) (w : World) (hf : Fd w) : Calls Tryd.prog 80 #[e.val] w (VE w (stubS e).val) := by
  have HR := hid (fun W => eright_any e W)
  by_cases h : Rt e
  · have HK := hid (fun W hW => emark_any e he W hW)
    rw [stubS_rt h]
    rw [decide_eq_true h] at HR
    have em : markE e = ⟨e.opn, e.view, (markE e).sum⟩ := by
      unfold markE
      rw [if_pos ((packE_rt he h).1)]
    rw [em] at HK
    generalize (markE e).sum = q at *
    clear em h
    obtain ⟨view, opn, under, parent, client, session, request, oper, body⟩ := e
    exact sstub_yes view opn under parent client session request oper body q w hf HR HK
  · rw [show stubS e = st0 from if_neg h]
    rw [decide_eq_false h] at HR
    obtain ⟨view, opn, under, parent, client, session, request, oper, body⟩ := e
    exact sstub_no view opn under parent client session request oper body w HR
theorem rstub_any (e : En) (he : e.fits) (w : World) : Calls Tryd.prog 51 #[e.val] w (VE w (stubS e).val) := by
  have HR := hid (fun W => rright9_any e W)
  by_cases h : Rt e
  · have HK := hid (fun W => rmark_any e he W)
    rw [stubS_rt h]
    rw [decide_eq_true h] at HR
    have em : markE e = ⟨e.opn, e.view, (markE e).sum⟩ := by
      unfold markE
      rw [if_pos ((packE_rt he h).1)]
    rw [em] at HK
    generalize (markE e).sum = q at *
    clear em h
    obtain ⟨view, opn, under, parent, client, session, request, oper, body⟩ := e
    exact rstub_yes view opn under parent client session request oper body q w HR HK
  · rw [show stubS e = st0 from if_neg h]
    rw [decide_eq_false h] at HR
    obtain ⟨view, opn, under, parent, client, session, request, oper, body⟩ := e
    exact rstub_no view opn under parent client session request oper body w HR
end Go.Proofs.YtcildaeiogdfdaaDoor
/-
  The walks of the document's Eight, At, fits, Bytes.
-/
namespace Go.Proofs.YtcildaeiogdfdaaDoor
open Go.RowKit
set_option maxRecDepth 10000

theorem rput_eight (W : World) (n B : Nat) (A : Option Addr) (c : Nat) (hn : U64 n) (hr : Rd W B A []) (hB : B ≤ W.heap.size) :
    Calls Tryd.prog 64 #[.slice A 0 c, .int .u64 (n : Int), .int .i64 8] W
    fun e w' => ∃ A c, e = .returned (.tuple #[.slice A 8 c, .int .i64 0]) ∧ Rd w' w'.heap.size A (bvs (le n 8)) ∧ Below W.heap.size W w' := by
  have h := rput_any A [] 0 c n B 8 W hr rfl hB (by omega) (hid hn)
  have e : putS [] n 8 = (le n 8, 0) := by
    unfold putS
    rw [if_pos ⟨by omega, by omega, Nat.div_eq_of_lt (by simpa using hn)⟩]
    rfl
  rw [e] at h
  refine h.mono fun e w' hh => ?_
  obtain ⟨A', c', e1, ho, hb⟩ := BE.len hh (le_len _ _)
  obtain ⟨A2, c2, e2, _, _, hrd⟩ := own_shape ho
  cases e2
  exact ⟨A', c', e1, hrd, hb⟩
set_option maxHeartbeats 400000 in
theorem eight_any (n : Nat) (w : World) (hn : U64 n) : Calls Tryd.prog 41 #[.int .u64 (n : Int)] w (SE w (le n 8)) := by
  have HP := hid (fun W A c B (h1 : Rd W B A []) h2 => rput_eight W n B A c hn h1 h2)
  have HL := hid (le_len 8 n)
  go_enter Tryd.func41, Tryd.ntmps41
  go_wp2_with (first
    | (go_at_call 64; refine (HP.out _ _ _ 0 Rd.nil (Nat.zero_le _)).mono ?_; rintro e w1 ⟨A, c, rfl, hrd, hb⟩)
    | (with_reducible refine wpl_str rfl _ 41 9 rfl 5 Tryd.underlying41 Tryd.underlying5 Tryd.underlying9 A 8 c rfl w1.heap.size (le n 8) ?_ (hid hrd) (hid HL.out.symm)))
  go_ret
  exact ⟨rfl, ((Below.refl _ _).alloc (Nat.le_refl _) _).trans (hb.mono (by simp))⟩
/-- the number at i -/
def at8 (bs : List UInt8) (i : Nat) : Nat := leV ((bs.drop i).take 8)
/-- the document's Eight, its text a variable -/
theorem eight_of (n : Nat) (x : Int) (hx : (n : Int) = x) (hn : U64 n) (W : World) : Calls Tryd.prog 41 #[.int .u64 x] W fun e w' => e = .returned (.string ⟨(le n 8).toArray⟩) ∧ Below W.heap.size W w' := by
  subst hx
  exact eight_any n W hn
theorem fits12_any (n l : Int) (b : Bool) (w : World) (h : b = f9 n l) : Calls Tryd.prog 68 #[.int .i64 n, .int .i64 l] w fun e w' => e = .returned (.bool b) ∧ w = w' := by
  subst h
  unfold f9
  by_cases h0 : l ≤ n
  · by_cases h1 : n ≤ 72057594037927935
    · go_enter Tryd.func68, Tryd.ntmps68
      go_wp2
      go_ret
      exact ⟨by simp [h0, h1], rfl⟩
    · go_enter Tryd.func68, Tryd.ntmps68
      go_wp2
      go_ret
      exact ⟨by simp [h1], rfl⟩
  · have h2 : decide (l ≤ n) = false := by simp; omega
    go_enter Tryd.func68, Tryd.ntmps68
    go_wp2
    go_ret
    exact ⟨by first | (simp; done) | (simp; omega), rfl⟩
/-- what Bytes answers -/
def bytesS (s : St) : List UInt8 × Bool := if SRt s then (s.bytes, true) else ([], false)
set_option maxHeartbeats 1000000 in
theorem rbytes_1 (opn view under : Int) (parent sum : Nat) (w : World) (H1 : Hid (∀ W, Calls Tryd.prog 68 #[.int .i64 opn, .int .i64 1] W fun e w' => e = .returned (.bool false) ∧ W = w')) :
    Calls Tryd.prog 43 #[.agg #[.int .i64 opn, .int .i64 view, .int .i64 under, .int .u64 (parent : Int), .int .u64 (sum : Int)]] w fun e w' => e = .returned (.tuple #[.string ⟨#[]⟩, .bool false]) ∧ Below w.heap.size w w' := by
  go_enter Tryd.func43, Tryd.ntmps43
  go_wp2_with (first
    | (go_at_call 68; refine (H1.out _).mono ?_; rintro e w' ⟨rfl, rfl⟩; clear H1))
  go_ret2
  exact ⟨rfl, (Below.refl _ _).alloc (Nat.le_refl _) _⟩
set_option maxHeartbeats 1000000 in
theorem rbytes_2 (opn view under : Int) (parent sum : Nat) (w : World) (H1 : Hid (∀ W, Calls Tryd.prog 68 #[.int .i64 opn, .int .i64 1] W fun e w' => e = .returned (.bool true) ∧ W = w')) (H2 : Hid (∀ W, Calls Tryd.prog 68 #[.int .i64 view, .int .i64 0] W fun e w' => e = .returned (.bool false) ∧ W = w')) :
    Calls Tryd.prog 43 #[.agg #[.int .i64 opn, .int .i64 view, .int .i64 under, .int .u64 (parent : Int), .int .u64 (sum : Int)]] w fun e w' => e = .returned (.tuple #[.string ⟨#[]⟩, .bool false]) ∧ Below w.heap.size w w' := by
  go_enter Tryd.func43, Tryd.ntmps43
  go_wp2_with (first
    | (go_at_call 68; refine (H1.out _).mono ?_; rintro e w' ⟨rfl, rfl⟩; clear H1)
    | (go_at_call 68; refine (H2.out _).mono ?_; rintro e w' ⟨rfl, rfl⟩; clear H2))
  go_ret2
  exact ⟨rfl, (Below.refl _ _).alloc (Nat.le_refl _) _⟩
set_option maxHeartbeats 1000000 in
theorem rbytes_3 (opn view under : Int) (parent sum : Nat) (w : World) (H1 : Hid (∀ W, Calls Tryd.prog 68 #[.int .i64 opn, .int .i64 1] W fun e w' => e = .returned (.bool true) ∧ W = w')) (H2 : Hid (∀ W, Calls Tryd.prog 68 #[.int .i64 view, .int .i64 0] W fun e w' => e = .returned (.bool true) ∧ W = w')) (H3 : Hid (∀ W, Calls Tryd.prog 68 #[.int .i64 under, .int .i64 0] W fun e w' => e = .returned (.bool false) ∧ W = w')) :
    Calls Tryd.prog 43 #[.agg #[.int .i64 opn, .int .i64 view, .int .i64 under, .int .u64 (parent : Int), .int .u64 (sum : Int)]] w fun e w' => e = .returned (.tuple #[.string ⟨#[]⟩, .bool false]) ∧ Below w.heap.size w w' := by
  go_enter Tryd.func43, Tryd.ntmps43
  go_wp2_with (first
    | (go_at_call 68; refine (H1.out _).mono ?_; rintro e w' ⟨rfl, rfl⟩; clear H1)
    | (go_at_call 68; refine (H2.out _).mono ?_; rintro e w' ⟨rfl, rfl⟩; clear H2)
    | (go_at_call 68; refine (H3.out _).mono ?_; rintro e w' ⟨rfl, rfl⟩; clear H3))
  go_ret2
  exact ⟨rfl, (Below.refl _ _).alloc (Nat.le_refl _) _⟩
set_option maxHeartbeats 1000000 in
theorem rbytes_4 (opn view under : Int) (parent sum : Nat) (w : World) (H1 : Hid (∀ W, Calls Tryd.prog 68 #[.int .i64 opn, .int .i64 1] W fun e w' => e = .returned (.bool true) ∧ W = w')) (H2 : Hid (∀ W, Calls Tryd.prog 68 #[.int .i64 view, .int .i64 0] W fun e w' => e = .returned (.bool true) ∧ W = w')) (H3 : Hid (∀ W, Calls Tryd.prog 68 #[.int .i64 under, .int .i64 0] W fun e w' => e = .returned (.bool true) ∧ W = w')) (h4 : view < under) :
    Calls Tryd.prog 43 #[.agg #[.int .i64 opn, .int .i64 view, .int .i64 under, .int .u64 (parent : Int), .int .u64 (sum : Int)]] w fun e w' => e = .returned (.tuple #[.string ⟨#[]⟩, .bool false]) ∧ Below w.heap.size w w' := by
  go_enter Tryd.func43, Tryd.ntmps43
  go_wp2_with (first
    | (go_at_call 68; refine (H1.out _).mono ?_; rintro e w' ⟨rfl, rfl⟩; clear H1)
    | (go_at_call 68; refine (H2.out _).mono ?_; rintro e w' ⟨rfl, rfl⟩; clear H2)
    | (go_at_call 68; refine (H3.out _).mono ?_; rintro e w' ⟨rfl, rfl⟩; clear H3))
  go_ret2
  exact ⟨rfl, (Below.refl _ _).alloc (Nat.le_refl _) _⟩
set_option maxHeartbeats 2000000 in
theorem rbytes_yes (opn view under : Int) (parent sum : Nat) (BS B0 B1 B2 B3 B4 : ByteArray) (w : World) (H1 : Hid (∀ W, Calls Tryd.prog 68 #[.int .i64 opn, .int .i64 1] W fun e w' => e = .returned (.bool true) ∧ W = w')) (H2 : Hid (∀ W, Calls Tryd.prog 68 #[.int .i64 view, .int .i64 0] W fun e w' => e = .returned (.bool true) ∧ W = w')) (H3 : Hid (∀ W, Calls Tryd.prog 68 #[.int .i64 under, .int .i64 0] W fun e w' => e = .returned (.bool true) ∧ W = w')) (h4 : ¬ view < under)
    (HE0 : Hid (∀ W, Calls Tryd.prog 41 #[.int .u64 (IntKind.u64.wrap opn)] W fun e w' => e = .returned (.string B0) ∧ Below W.heap.size W w'))
    (HE1 : Hid (∀ W, Calls Tryd.prog 41 #[.int .u64 (IntKind.u64.wrap view)] W fun e w' => e = .returned (.string B1) ∧ Below W.heap.size W w'))
    (HE2 : Hid (∀ W, Calls Tryd.prog 41 #[.int .u64 (IntKind.u64.wrap under)] W fun e w' => e = .returned (.string B2) ∧ Below W.heap.size W w'))
    (HE3 : Hid (∀ W, Calls Tryd.prog 41 #[.int .u64 (parent : Int)] W fun e w' => e = .returned (.string B3) ∧ Below W.heap.size W w'))
    (HE4 : Hid (∀ W, Calls Tryd.prog 41 #[.int .u64 (sum : Int)] W fun e w' => e = .returned (.string B4) ∧ Below W.heap.size W w'))
    (HX : Hid (B0 ++ B1 ++ B2 ++ B3 ++ B4 = BS)) (HZ : Hid (B0.size = 8 ∧ B1.size = 8 ∧ B2.size = 8 ∧ B3.size = 8 ∧ B4.size = 8)) :
    Calls Tryd.prog 43 #[.agg #[.int .i64 opn, .int .i64 view, .int .i64 under, .int .u64 (parent : Int), .int .u64 (sum : Int)]] w fun e w' => e = .returned (.tuple #[.string BS, .bool true]) ∧ Below w.heap.size w w' := by
  have HRW : Hid (Row (w.alloc (.cells #[.int .i64 opn, .int .i64 view, .int .i64 under, .int .u64 (parent : Int), .int .u64 (sum : Int)] 44)) w.heap.size 44 (#[.int .i64 opn, .int .i64 view, .int .i64 under, .int .u64 (parent : Int), .int .u64 (sum : Int)] : Array Value).toList) := hid (Row.new _ _ _)
  have HB0 := hid ((Below.refl w.heap.size w).alloc (Nat.le_refl _) (.cells #[.int .i64 opn, .int .i64 view, .int .i64 under, .int .u64 (parent : Int), .int .u64 (sum : Int)] 44))
  have HC : Hid (∀ j v, (#[.int .i64 opn, .int .i64 view, .int .i64 under, .int .u64 (parent : Int), .int .u64 (sum : Int)] : Array Value).toList[j]? = some v → ∀ W, Below (w.alloc (.cells #[.int .i64 opn, .int .i64 view, .int .i64 under, .int .u64 (parent : Int), .int .u64 (sum : Int)] 44)).heap.size (w.alloc (.cells #[.int .i64 opn, .int .i64 view, .int .i64 under, .int .u64 (parent : Int), .int .u64 (sum : Int)] 44)) W → W.cell? ⟨w.heap.size, j, none⟩ = some v) := hid fun j v hv W hW => by
    rw [(HRW.out.below hW HRW.out.lt).cell]
    exact hv
  have HC0 := hid (HC.out 0 _ rfl)
  have HC1 := hid (HC.out 1 _ rfl)
  have HC2 := hid (HC.out 2 _ rfl)
  have HC3 := hid (HC.out 3 _ rfl)
  have HC4 := hid (HC.out 4 _ rfl)
  clear HC
  have hnl : decide (view < under) = false := by simpa using h4
  clear h4
  obtain ⟨W0, hW0⟩ : ∃ W0, W0 = w.alloc (.cells #[.int .i64 opn, .int .i64 view, .int .i64 under, .int .u64 (parent : Int), .int .u64 (sum : Int)] 44) := ⟨_, rfl⟩
  rw [← hW0] at HRW HB0 HC0 HC1 HC2 HC3 HC4
  have HW0 := hid hW0
  clear hW0
  go_enter Tryd.func43, Tryd.ntmps43
  go_wp2_with (first
    | (go_at_call 68; refine (H1.out _).mono ?_; rintro e w' ⟨rfl, rfl⟩; clear H1)
    | (go_at_call 68; refine (H2.out _).mono ?_; rintro e w' ⟨rfl, rfl⟩; clear H2)
    | (go_at_call 68; refine (H3.out _).mono ?_; rintro e w' ⟨rfl, rfl⟩; clear H3))
  rw [← HW0.out]
  clear HRW
  obtain ⟨z0, z1, z2, z3, z4⟩ := HZ.out
  have hq2 : ¬ (9223372036854775807 < B0.size + B1.size) := by omega
  have hq3 : ¬ (9223372036854775807 < B0.size + B1.size + B2.size) := by omega
  have hq4 : ¬ (9223372036854775807 < B0.size + B1.size + B2.size + B3.size) := by omega
  have hq5 : ¬ (9223372036854775807 < B0.size + B1.size + B2.size + B3.size + B4.size) := by omega
  clear z0 z1 z2 z3 z4
  refine wp_region_held_drew (S := fun W => Below W0.heap.size W0 W) (by kernel_rfl) ((Below.refl _ _).drew) (fun hH => ?_)
  refine wpAnyH_take (i := 0) (v := .pointer (some ⟨w.heap.size, 0, none⟩)) rfl (by kernel_rfl) (by kernel_rfl) (by kernel_rfl) (fun _ _ _ h => h) (Or.inl ⟨by rfl, fun w' hw' => by clear hw'; go_simp⟩) hH ?_
  simp only [Act.put]
  refine wpAnyH_take (i := 1) (v := .int .i64 opn) rfl (by kernel_rfl) (by kernel_rfl) (by kernel_rfl) (fun _ _ _ h => h) (Or.inl ⟨by rfl, fun w' hw' => by have h := HC0.out w' hw'; go_simp⟩) hH ?_
  simp only [Act.put]
  refine wpAnyH_take (i := 2) (v := .int .u64 (IntKind.u64.wrap opn)) rfl (by kernel_rfl) (by kernel_rfl) (by kernel_rfl) (fun _ _ _ h => h) (Or.inl ⟨by rfl, fun w' hw' => by clear hw'; go_simp⟩) hH ?_
  simp only [Act.put]
  refine wpAnyH_take (i := 4) (v := .pointer (some ⟨w.heap.size, 1, none⟩)) rfl (by kernel_rfl) (by kernel_rfl) (by kernel_rfl) (fun _ _ _ h => h) (Or.inl ⟨by rfl, fun w' hw' => by clear hw'; go_simp⟩) hH ?_
  simp only [Act.put]
  refine wpAnyH_take (i := 5) (v := .int .i64 view) rfl (by kernel_rfl) (by kernel_rfl) (by kernel_rfl) (fun _ _ _ h => h) (Or.inl ⟨by rfl, fun w' hw' => by have h := HC1.out w' hw'; go_simp⟩) hH ?_
  simp only [Act.put]
  refine wpAnyH_take (i := 6) (v := .int .u64 (IntKind.u64.wrap view)) rfl (by kernel_rfl) (by kernel_rfl) (by kernel_rfl) (fun _ _ _ h => h) (Or.inl ⟨by rfl, fun w' hw' => by clear hw'; go_simp⟩) hH ?_
  simp only [Act.put]
  refine wpAnyH_take (i := 9) (v := .pointer (some ⟨w.heap.size, 2, none⟩)) rfl (by kernel_rfl) (by kernel_rfl) (by kernel_rfl) (fun _ _ _ h => h) (Or.inl ⟨by rfl, fun w' hw' => by clear hw'; go_simp⟩) hH ?_
  simp only [Act.put]
  refine wpAnyH_take (i := 10) (v := .int .i64 under) rfl (by kernel_rfl) (by kernel_rfl) (by kernel_rfl) (fun _ _ _ h => h) (Or.inl ⟨by rfl, fun w' hw' => by have h := HC2.out w' hw'; go_simp⟩) hH ?_
  simp only [Act.put]
  refine wpAnyH_take (i := 11) (v := .int .u64 (IntKind.u64.wrap under)) rfl (by kernel_rfl) (by kernel_rfl) (by kernel_rfl) (fun _ _ _ h => h) (Or.inl ⟨by rfl, fun w' hw' => by clear hw'; go_simp⟩) hH ?_
  simp only [Act.put]
  refine wpAnyH_take (i := 14) (v := .pointer (some ⟨w.heap.size, 3, none⟩)) rfl (by kernel_rfl) (by kernel_rfl) (by kernel_rfl) (fun _ _ _ h => h) (Or.inl ⟨by rfl, fun w' hw' => by clear hw'; go_simp⟩) hH ?_
  simp only [Act.put]
  refine wpAnyH_take (i := 15) (v := .int .u64 (parent : Int)) rfl (by kernel_rfl) (by kernel_rfl) (by kernel_rfl) (fun _ _ _ h => h) (Or.inl ⟨by rfl, fun w' hw' => by have h := HC3.out w' hw'; go_simp⟩) hH ?_
  simp only [Act.put]
  refine wpAnyH_take (i := 18) (v := .pointer (some ⟨w.heap.size, 4, none⟩)) rfl (by kernel_rfl) (by kernel_rfl) (by kernel_rfl) (fun _ _ _ h => h) (Or.inl ⟨by rfl, fun w' hw' => by clear hw'; go_simp⟩) hH ?_
  simp only [Act.put]
  refine wpAnyH_take (i := 19) (v := .int .u64 (sum : Int)) rfl (by kernel_rfl) (by kernel_rfl) (by kernel_rfl) (fun _ _ _ h => h) (Or.inl ⟨by rfl, fun w' hw' => by have h := HC4.out w' hw'; go_simp⟩) hH ?_
  simp only [Act.put]
  refine wpAnyH_ready (rs := [3]) (by kernel_rfl) (by simp) ?_
  refine AllReadyH.cons rfl (fun K hK => ?_) AllReadyH.nil
  go_simp
  go_at_call 41
  refine (HE0.out _).mono ?_
  rintro e w2 ⟨rfl, hb2⟩
  go_wp2_with fail
  refine hK.out _ _ (hH.trans (hb2.mono hH.size)) (fun hH => ?_)
  clear hK K
  try simp only [Act.put]
  refine wpAnyH_ready (rs := [7]) (by kernel_rfl) (by simp) ?_
  refine AllReadyH.cons rfl (fun K hK => ?_) AllReadyH.nil
  go_simp
  go_at_call 41
  refine (HE1.out _).mono ?_
  rintro e w3 ⟨rfl, hb3⟩
  go_wp2_with fail
  refine hK.out _ _ (hH.trans (hb3.mono hH.size)) (fun hH => ?_)
  clear hK K
  try simp only [Act.put]
  refine wpAnyH_take (i := 8) (v := .string (B0 ++ B1)) rfl (by kernel_rfl) (by kernel_rfl) (by kernel_rfl) (fun _ _ _ h => h) (Or.inl ⟨by rfl, fun w' hw' => by clear hw'; go_simp⟩) hH ?_
  simp only [Act.put]
  refine wpAnyH_ready (rs := [12]) (by kernel_rfl) (by simp) ?_
  refine AllReadyH.cons rfl (fun K hK => ?_) AllReadyH.nil
  go_simp
  go_at_call 41
  refine (HE2.out _).mono ?_
  rintro e w4 ⟨rfl, hb4⟩
  go_wp2_with fail
  refine hK.out _ _ (hH.trans (hb4.mono hH.size)) (fun hH => ?_)
  clear hK K
  try simp only [Act.put]
  refine wpAnyH_take (i := 13) (v := .string (B0 ++ B1 ++ B2)) rfl (by kernel_rfl) (by kernel_rfl) (by kernel_rfl) (fun _ _ _ h => h) (Or.inl ⟨by rfl, fun w' hw' => by clear hw'; go_simp⟩) hH ?_
  simp only [Act.put]
  refine wpAnyH_ready (rs := [16]) (by kernel_rfl) (by simp) ?_
  refine AllReadyH.cons rfl (fun K hK => ?_) AllReadyH.nil
  go_simp
  go_at_call 41
  refine (HE3.out _).mono ?_
  rintro e w5 ⟨rfl, hb5⟩
  go_wp2_with fail
  refine hK.out _ _ (hH.trans (hb5.mono hH.size)) (fun hH => ?_)
  clear hK K
  try simp only [Act.put]
  refine wpAnyH_take (i := 17) (v := .string (B0 ++ B1 ++ B2 ++ B3)) rfl (by kernel_rfl) (by kernel_rfl) (by kernel_rfl) (fun _ _ _ h => h) (Or.inl ⟨by rfl, fun w' hw' => by clear hw'; go_simp⟩) hH ?_
  simp only [Act.put]
  refine wpAnyH_ready (rs := [20]) (by kernel_rfl) (by simp) ?_
  refine AllReadyH.cons rfl (fun K hK => ?_) AllReadyH.nil
  go_simp
  go_at_call 41
  refine (HE4.out _).mono ?_
  rintro e w6 ⟨rfl, hb6⟩
  go_wp2_with fail
  refine hK.out _ _ (hH.trans (hb6.mono hH.size)) (fun hH => ?_)
  clear hK K
  try simp only [Act.put]
  refine wpAnyH_take (i := 21) (v := .string (B0 ++ B1 ++ B2 ++ B3 ++ B4)) rfl (by kernel_rfl) (by kernel_rfl) (by kernel_rfl) (fun _ _ _ h => h) (Or.inl ⟨by rfl, fun w' hw' => by clear hw'; go_simp⟩) hH ?_
  simp only [Act.put]
  refine wpAnyH_ready (rs := [22]) (by kernel_rfl) (by simp) ?_
  refine AllReadyH.cons rfl (fun K hK => ?_) AllReadyH.nil
  go_simp
  refine hK.out _ _ (hH) (fun hH => ?_)
  clear hK K
  try simp only [Act.put]
  refine wpAnyH_ready (rs := [23]) (by kernel_rfl) (by simp) ?_
  refine AllReadyH.cons rfl (fun K hK => ?_) AllReadyH.nil
  go_simp
  refine hK.out _ _ (hH) (fun hH => ?_)
  clear hK K
  try simp only [Act.put]
  refine wpAnyH_done (by kernel_rfl) ?_ _
  try simp only [Act.put]
  go_wp2_with fail
  rw [HX.out]
  go_ret2
  exact ⟨rfl, HB0.out.trans (hH.mono HB0.out.size)⟩
theorem srt_f9 (s : St) : SRt s ↔ f9 s.opn 1 = true ∧ f9 s.view 0 = true ∧ f9 s.under 0 = true ∧ ¬ s.view < s.under := by
  unfold SRt f9
  simp only [decide_eq_true_eq]
  omega
theorem rbyT_any (s : St) (hf : s.fits) (w : World) : Calls Tryd.prog 43 #[s.val] w fun e w' => e = .returned (.tuple #[.string ⟨(bytesS s).1.toArray⟩, .bool (bytesS s).2]) ∧ Below w.heap.size w w' := by
  have H1 := hid (fun W => fits12_any s.opn 1 _ W rfl)
  have H2 := hid (fun W => fits12_any s.view 0 _ W rfl)
  have H3 := hid (fun W => fits12_any s.under 0 _ W rfl)
  have hi := srt_f9 s
  obtain ⟨opn, view, under, parent, sum⟩ := s
  simp only at H1 H2 H3 hi
  by_cases h : SRt ⟨opn, view, under, parent, sum⟩
  · obtain ⟨a1, a2, a3, a4⟩ := hi.1 h
    rw [a1] at H1
    rw [a2] at H2
    rw [a3] at H3
    have e : bytesS ⟨opn, view, under, parent, sum⟩ = (le (un opn) 8 ++ le (un view) 8 ++ le (un under) 8 ++ le parent 8 ++ le sum 8, true) := by
      unfold bytesS
      rw [if_pos h]
      simp [St.bytes, St.nums, nb]
    rw [e]
    obtain ⟨-, h4, h5⟩ := hf
    refine rbytes_yes opn view under parent sum _ ⟨(le (un opn) 8).toArray⟩ ⟨(le (un view) 8).toArray⟩ ⟨(le (un under) 8).toArray⟩ ⟨(le parent 8).toArray⟩ ⟨(le sum 8).toArray⟩ w H1 H2 H3 a4 (hid fun W => eight_of _ _ (un_wrap opn).symm (un_lt _) W) (hid fun W => eight_of _ _ (un_wrap view).symm (un_lt _) W) (hid fun W => eight_of _ _ (un_wrap under).symm (un_lt _) W) (hid fun W => eight_of _ _ rfl h4 W) (hid fun W => eight_of _ _ rfl h5 W) (hid ?_) (hid ?_)
    · rw [cat_mk, cat_mk, cat_mk, cat_mk]
    · have hs : ∀ n, (⟨(le n 8).toArray⟩ : ByteArray).size = 8 := fun n => by
        rw [← sb_len, sb_mk, le_len]
      exact ⟨hs _, hs _, hs _, hs _, hs _⟩
  · have e : bytesS ⟨opn, view, under, parent, sum⟩ = ([], false) := if_neg h
    rw [e]
    by_cases a1 : f9 opn 1 = true
    · rw [a1] at H1
      by_cases a2 : f9 view 0 = true
      · rw [a2] at H2
        by_cases a3 : f9 under 0 = true
        · rw [a3] at H3
          exact rbytes_4 opn view under parent sum w H1 H2 H3 (Decidable.not_not.1 fun a4 => h (hi.2 ⟨a1, a2, a3, a4⟩))
        · rw [Bool.eq_false_iff.2 a3] at H3
          exact rbytes_3 opn view under parent sum w H1 H2 H3
      · rw [Bool.eq_false_iff.2 a2] at H2
        exact rbytes_2 opn view under parent sum w H1 H2
    · rw [Bool.eq_false_iff.2 a1] at H1
      exact rbytes_1 opn view under parent sum w H1
end Go.Proofs.YtcildaeiogdfdaaDoor
/-
  The walks of Prepare, Header, Void, package slot's and the document's.
-/
namespace Go.Proofs.YtcildaeiogdfdaaDoor
open Go.RowKit
set_option maxRecDepth 10000

theorem shdr_no (C : Array Value) (old : ByteArray) (T : List UInt8)  (w : World) (HSZ : Hid (C.size = 5)) 
    (HP : Hid (∀ W : World, Calls Tryd.prog 95 #[.agg C] W fun e w' => e = .returned (.tuple #[.string ⟨T.toArray⟩, .int .i64 4]) ∧ Below W.heap.size W w')) :
    Calls Tryd.prog 88 #[.string old, .agg C] w (SN w ([], 4)) := by
  have HZS := hid stsize
  go_enter Tryd.func88, Tryd.ntmps88
  go_wp2_with (first
    | (refine wpList_load_row rfl 44 (.tmp 3) rfl w.heap.size rfl 44 C (0, 0) _ (heap_alloc_new _ _) Tryd.underlying44 rfl (by rw [HSZ.out]; exact HZS.out) ?_)
    | (go_at_call 95; refine (HP.out _).mono ?_; rintro e w1 ⟨rfl, hb1⟩))
  go_ret2
  exact ⟨rfl, ((Below.refl _ _).alloc (Nat.le_refl _) _).trans (hb1.mono (by simp))⟩
theorem shdr_yes (C : Array Value) (old : ByteArray) (T : List UInt8) (r : List UInt8 × Int) (w : World) (HSZ : Hid (C.size = 5))
    (HP : Hid (∀ W : World, Calls Tryd.prog 95 #[.agg C] W fun e w' => e = .returned (.tuple #[.string ⟨T.toArray⟩, .int .i64 0]) ∧ Below W.heap.size W w'))
    (HS : Hid (∀ W : World, Calls Tryd.prog 96 #[.string old, .string ⟨T.toArray⟩] W (SN W r))) :
    Calls Tryd.prog 88 #[.string old, .agg C] w (SN w r) := by
  have HZS := hid stsize
  go_enter Tryd.func88, Tryd.ntmps88
  go_wp2_with (first
    | (refine wpList_load_row rfl 44 (.tmp 3) rfl w.heap.size rfl 44 C (0, 0) _ (heap_alloc_new _ _) Tryd.underlying44 rfl (by rw [HSZ.out]; exact HZS.out) ?_)
    | (go_at_call 95; refine (HP.out _).mono ?_; rintro e w1 ⟨rfl, hb1⟩)
    | (go_at_call 96; refine (HS.out _).mono ?_; rintro e w2 ⟨rfl, hb2⟩))
  go_ret2
  exact ⟨rfl, (((Below.refl _ _).alloc (Nat.le_refl _) _).trans (hb1.mono (by simp))).trans (hb2.mono (by have := hb1.size; simp at this; omega))⟩
theorem shdr_any (old : ByteArray) (s : St) (hs : s.fits) (hold : old.size ≤ 1125899906842624) (w : World) : Calls Tryd.prog 88 #[.string old, s.val] w (SN w (hdrS (sb old) s)) := by
  have HSZ : Hid (s.cells.size = 5) := hid rfl
  have HP := hid (fun W => spackT_any s hs W)
  unfold hdrS
  unfold packT at HP
  by_cases h0 : SRt s
  · rw [if_pos h0] at HP ⊢
    have HS := hid (fun W => seal_calls old ⟨s.bytes.toArray⟩ W hold)
    rw [sb_mk] at HS
    exact shdr_yes s.cells old _ _ w HSZ HP HS
  · rw [if_neg h0] at HP ⊢
    exact shdr_no s.cells old _ w HSZ HP
end Go.Proofs.YtcildaeiogdfdaaDoor
/-
  Messages in plain words: their fields, what may be, their bytes, what bytes say.
-/
namespace Go.Proofs.YtcildaeiogdfdaaDoor
open Go.RowKit
set_option maxRecDepth 10000

theorem en_ext (a b : En) : a = b ↔ (a.view = b.view ∧ a.opn = b.opn ∧ a.under = b.under ∧ a.parent = b.parent) ∧ a.client = b.client ∧ a.session = b.session ∧ a.request = b.request ∧ a.oper = b.oper ∧ a.body = b.body := by
  obtain ⟨a1, a2, a3, a4, a5, a6, a7, a8, a9⟩ := a
  obtain ⟨b1, b2, b3, b4, b5, b6, b7, b8, b9⟩ := b
  simp only [En.mk.injEq]
  constructor
  · rintro ⟨h1, h2, h3, h4, h5, h6, h7, h8, h9⟩; exact ⟨⟨h1, h2, h3, h4⟩, h5, h6, h7, h8, h9⟩
  · rintro ⟨⟨h1, h2, h3, h4⟩, h5, h6, h7, h8, h9⟩; exact ⟨h1, h2, h3, h4, h5, h6, h7, h8, h9⟩
instance : DecidableEq En := fun a b => decidable_of_iff _ (en_ext a b).symm
theorem it_ext (a b : It) : a = b ↔ a.kind = b.kind ∧ a.stub = b.stub ∧ a.entry = b.entry := by
  obtain ⟨a1, a2, a3⟩ := a
  obtain ⟨b1, b2, b3⟩ := b
  simp only [It.mk.injEq]
instance : DecidableEq It := fun a b => decidable_of_iff _ (it_ext a b).symm
/-- a message -/
structure Ms where
  kind : Int
  frm : Int
  view : Int
  lv : Int
  opn : Int
  commit : Int
  client : Int
  session : Int
  request : Int
  oper : Int
  index : Int
  size : Int
  check : Mk
  sums : List Nat
  entry : En
  es : List En
  xs : List It
  body : ByteArray
deriving DecidableEq
def z6 : List Nat := [0, 0, 0, 0, 0, 0]
def ms0 : Ms := ⟨0, 0, 0, 0, 0, 0, 0, 0, 0, 0, 0, 0, mk0, z6, en0, [], [], ⟨#[]⟩⟩
/-- an item of the machine's -/
def It.fits (x : It) : Prop := In64 x.kind ∧ x.stub.fits ∧ x.entry.fits
/-- a message of the machine's -/
def Ms.fits (m : Ms) : Prop := (In64 m.kind ∧ In64 m.frm ∧ In64 m.view ∧ In64 m.lv ∧ In64 m.opn ∧ In64 m.commit) ∧ (In64 m.client ∧ In64 m.session ∧ In64 m.request ∧ In64 m.oper ∧ In64 m.index ∧ In64 m.size) ∧
  m.check.fits ∧ (m.sums.length = 6 ∧ ∀ n ∈ m.sums, n < 18446744073709551616) ∧ m.entry.fits ∧ (∀ e ∈ m.es, e.fits) ∧ ∀ x ∈ m.xs, x.fits
/-! ### the fields of a kind -/
def kView (k : Int) : Bool := k == 2 || k == 3 || k == 4 || k == 5 || k == 6 || k == 7 || k == 8 || k == 9 || k == 16
def kLog (k : Int) : Bool := k == 7
def kOp (k : Int) : Bool := k == 3 || k == 4 || k == 10 || k == 16
def kCom (k : Int) : Bool := k == 2 || k == 5 || k == 7 || k == 8
def kCli (k : Int) : Bool := k == 1 || k == 4 || k == 16
def kOpr (k : Int) : Bool := k == 1
def kIdx (k : Int) : Bool := k == 14 || k == 15
def kSz (k : Int) : Bool := k == 13
def kChk (k : Int) : Bool := k == 7 || k == 8 || k == 13 || k == 14 || k == 15
def kEnt (k : Int) : Bool := k == 2 || k == 11
def kEs (k : Int) : Bool := k == 8
def kBod (k : Int) : Bool := k == 1 || k == 4 || k == 15
def ifI (b : Bool) (n : Int) : Int := if b then n else 0
def keptM (m : Ms) : Ms :=
  ⟨m.kind, m.frm, ifI (kView m.kind) m.view, ifI (kLog m.kind) m.lv, ifI (kOp m.kind) m.opn, ifI (kCom m.kind) m.commit, ifI (kCli m.kind) m.client, ifI (kCli m.kind) m.session, ifI (kCli m.kind) m.request, ifI (kOpr m.kind) m.oper,
   ifI (kIdx m.kind) m.index, ifI (kSz m.kind) m.size, if kChk m.kind then m.check else mk0, if kSz m.kind then m.sums else z6, if kEnt m.kind then m.entry else en0, if kEs m.kind then m.es else [], if kLog m.kind then m.xs else [], if kBod m.kind then m.body else ⟨#[]⟩⟩
/-! ### may be -/
def Fi (n : Int) : Prop := 0 ≤ n ∧ n ≤ 72057594037927935
instance (n : Int) : Decidable (Fi n) := by unfold Fi; infer_instance
def itemR (x : It) : Prop :=
  if x.kind = 1 then Rt x.entry ∧ stubS x.entry = x.stub else if x.kind = 2 then SRt x.stub ∧ x.entry = en0 else (x.kind = 0 ∨ x.kind = 3) ∧ x.entry = en0 ∧ x.stub = st0
instance (x : It) : Decidable (itemR x) := by unfold itemR; infer_instance
def numsM (m : Ms) : List Int := [m.view, m.lv, m.opn, m.commit, m.client, m.session, m.request, m.index, m.size, m.check.opn, m.check.view]
def rightM (m : Ms) : Prop :=
  ((1 ≤ m.kind ∧ m.kind ≤ 16) ∧ (0 ≤ m.frm ∧ m.frm ≤ 255) ∧ (0 ≤ m.oper ∧ m.oper ≤ 255) ∧ m = keptM m) ∧ (∀ n ∈ numsM m, Fi n) ∧
  (m.body.size ≤ 320 ∧ (m.kind ≠ 15 → m.body.size ≤ 200) ∧ m.es.length ≤ 8 ∧ (m.kind = 7 → m.xs.length = 8)) ∧
  (∀ e ∈ m.es, Rt e) ∧ (∀ x ∈ m.xs, itemR x) ∧ (m.kind = 2 ∨ m.kind = 11 → Rt m.entry)
instance (m : Ms) : Decidable (rightM m) := by unfold rightM; infer_instance
/-! ### bytes -/
/-- an entry's text -/
def textE (e : En) : List UInt8 := le (packE e).1.length 2 ++ (packE e).1
def itemB (x : It) : List UInt8 := UInt8.ofNat (x.kind % 256).toNat :: (if x.kind = 1 then textE x.entry else if x.kind = 2 then (bytesS x.stub).1 else [])
def chkB (k : Mk) : List UInt8 := le (un k.opn) 8 ++ (le (un k.view) 8 ++ le k.sum 8)
def bodyM (m : Ms) : List UInt8 :=
  (if kChk m.kind then chkB m.check else []) ++ ((if kSz m.kind then nb m.sums else []) ++ ((if kEnt m.kind then textE m.entry else []) ++ ((if kEs m.kind then [UInt8.ofNat m.es.length] else []) ++
   (m.es.flatMap textE ++ (m.xs.flatMap itemB ++ sb m.body)))))
def hdM (m : Ms) : Hd := ⟨m.kind, m.frm, m.oper, m.view, m.opn, m.commit, m.client, m.session, m.request, m.lv, if m.kind = 13 then m.size else m.index, 0⟩
def encM (m : Ms) : List UInt8 × Int := if rightM m then packS (hdM m) (bodyM m) else ([], 4)
/-! ### what bytes say -/
def entP (b : List UInt8) (p : Nat) : Option (En × Nat) :=
  if (ttS b p 65535).2.2 = 0 ∧ (unpackE (ttS b p 65535).1).2 = 0 then some ((unpackE (ttS b p 65535).1).1, (ttS b p 65535).2.1.toNat) else none
def entsF (b : List UInt8) (p : Nat) : Nat → Option (List En × Nat)
  | 0 => some ([], p)
  | k + 1 => (entsF b p k).bind fun lp => (entP b lp.2).map fun et => (lp.1 ++ [et.1], et.2)
def itemP (b : List UInt8) (p : Nat) : Option (It × Nat) :=
  match b[p]? with
  | none => none
  | some c =>
    if c = 1 then (entP b (p + 1)).map fun et => (⟨1, stubS et.1, et.1⟩, et.2)
    else if c = 2 then if b.length < p + 41 then none else some (⟨2, stOf (takeT (b.drop (p + 1))), en0⟩, p + 41)
    else some (⟨(c.toNat : Int), st0, en0⟩, p + 1)
def itemsF (b : List UInt8) (p : Nat) : Nat → Option (List It × Nat)
  | 0 => some ([], p)
  | k + 1 => (itemsF b p k).bind fun lp => (itemP b lp.2).map fun et => (lp.1 ++ [et.1], et.2)
def chkP (b : List UInt8) : Mk := ⟨sg (at8 b 0), sg (at8 b 8), at8 b 16⟩
def sumsP (b : List UInt8) : List Nat := (List.range 6).map fun i => at8 b (24 + 8 * i)
def baseP (h : Hd) (b : List UInt8) : Ms :=
  ⟨h.kind, h.frm, h.view, h.a, h.opn, h.commit, h.client, h.session, h.request, h.oper, ifI (kIdx h.kind) h.b, ifI (kSz h.kind) h.b, if kChk h.kind then chkP b else mk0,
   if kSz h.kind ∧ b.length = 72 then sumsP b else z6, en0, [], [], if kBod h.kind then ⟨(b.drop (if kChk h.kind then 24 else 0)).toArray⟩ else ⟨#[]⟩⟩
def parseM (h : Hd) (b : List UInt8) : Option Ms :=
  if kChk h.kind ∧ b.length < 24 then none
  else if kEnt h.kind then (entP b 0).map fun et => { baseP h b with entry := et.1 }
  else if kEs h.kind then match b[24]? with | none => none | some c => (entsF b 25 c.toNat).map fun lp => { baseP h b with es := lp.1 }
  else if kLog h.kind then (itemsF b 24 8).map fun lp => { baseP h b with xs := lp.1 }
  else some (baseP h b)
def decM (s : List UInt8) : Ms × Int :=
  if (unpackS s).2.2 = 0 then match parseM (unpackS s).1 (unpackS s).2.1 with | none => (ms0, 4) | some m => if encM m = (s, 0) then (m, 0) else (ms0, 4)
  else (ms0, 4)
end Go.Proofs.YtcildaeiogdfdaaDoor
