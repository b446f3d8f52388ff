/-
  The walks of the document's Entry, Stub.
-/
import Derived.Test.YtdcoiehhnllhmaaDoorM20
import Derived.Test.YtdcoiehhnllhmaaDoorEEreads
namespace Go.Proofs.YtdcoiehhnllhmaaDoor
open Go.RowKit
set_option maxRecDepth 10000

theorem openS_no (p : List UInt8) : (openS p).2 = false → (openS p).1 = [] := by
  unfold openS
  split
  · intro h; cases h
  · exact fun _ => rfl
set_option maxHeartbeats 1000000 in
theorem rent_off (s : ByteArray)  (w : World) (HO : Hid (∀ W : World, Calls Tryd.prog 49 #[.string s] W fun e w' => e = .returned (.tuple #[.string ⟨#[]⟩, .bool false]) ∧ Below W.heap.size W w')) :
    Calls Tryd.prog 22 #[.string s] w (LQ w #[.int .i64 0, .int .i64 0, .int .i64 0, .int .u64 0, .int .i64 0, .int .i64 0, .int .i64 0, .int .i64 0, .string ⟨#[]⟩] false false) := by
  have HZS := hid esize
  go_enter Tryd.func22, Tryd.ntmps22
  go_wp2_with (first
    | (go_at_call 49; refine (HO.out _).mono ?_; rintro x w1 ⟨rfl, hbq⟩; have hr0 := (Row.new w 24 #[.int .i64 0, .int .i64 0, .int .i64 0, .int .u64 0, .int .i64 0, .int .i64 0, .int .i64 0, .int .i64 0, .string ⟨#[]⟩]).below hbq (by simp); have hbe := ((Below.refl w.heap.size w).alloc (Nat.le_refl _) (.cells #[.int .i64 0, .int .i64 0, .int .i64 0, .int .u64 0, .int .i64 0, .int .i64 0, .int .i64 0, .int .i64 0, .string ⟨#[]⟩] 24)).trans (hbq.mono (by simp)); clear hbq)
    | ((with_reducible show wpList _ _ _ ({ dst := none, op := .store _ (.tmp 2) (.tmp 16), type := _, pos := _, after := _, guard := _ } :: _) _ _); refine wpl_store_st rfl (.tmp 2) (.tmp 16) rfl (n := 9) HZS.out w.heap.size #[.int .i64 0, .int .i64 0, .int .i64 0, .int .u64 0, .int .i64 0, .int .i64 0, .int .i64 0, .int .i64 0, .string ⟨#[]⟩] #[.int .i64 0, .int .i64 0, .int .i64 0, .int .u64 0, .int .i64 0, .int .i64 0, .int .i64 0, .int .i64 0, .string ⟨#[]⟩] rfl rfl hr0 ?_ (hid rfl) (hid rfl) (hid ezero_one); intro w7 HR7 HB7))
  exact bodyPost_ret (v := .tuple #[.agg #[.int .i64 0, .int .i64 0, .int .i64 0, .int .u64 0, .int .i64 0, .int .i64 0, .int .i64 0, .int .i64 0, .string ⟨#[]⟩], .bool false, .bool false]) (results_cell2 rfl _ _ w.heap.size 24 #[.int .i64 0, .int .i64 0, .int .i64 0, .int .u64 0, .int .i64 0, .int .i64 0, .int .i64 0, .int .i64 0, .string ⟨#[]⟩] (0, 0) _ (.bool false) (.bool false) rfl rfl rfl HR7.arr Tryd.underlying24 rfl (by exact HZS.out)) rfl
    ⟨rfl, hbe.trans (below_grown HB7 (Nat.le_refl _) hbe.size)⟩
set_option maxHeartbeats 1000000 in
theorem rent_void (s : ByteArray)  (w : World) (HO : Hid (∀ W : World, Calls Tryd.prog 49 #[.string s] W fun e w' => e = .returned (.tuple #[.string ⟨#[]⟩, .bool true]) ∧ Below W.heap.size W w')) :
    Calls Tryd.prog 22 #[.string s] w (LQ w #[.int .i64 0, .int .i64 0, .int .i64 0, .int .u64 0, .int .i64 0, .int .i64 0, .int .i64 0, .int .i64 0, .string ⟨#[]⟩] false true) := by
  have HZS := hid esize
  go_enter Tryd.func22, Tryd.ntmps22
  go_wp2_with (first
    | (go_at_call 49; refine (HO.out _).mono ?_; rintro x w1 ⟨rfl, hbq⟩; have hr0 := (Row.new w 24 #[.int .i64 0, .int .i64 0, .int .i64 0, .int .u64 0, .int .i64 0, .int .i64 0, .int .i64 0, .int .i64 0, .string ⟨#[]⟩]).below hbq (by simp); have hbe := ((Below.refl w.heap.size w).alloc (Nat.le_refl _) (.cells #[.int .i64 0, .int .i64 0, .int .i64 0, .int .u64 0, .int .i64 0, .int .i64 0, .int .i64 0, .int .i64 0, .string ⟨#[]⟩] 24)).trans (hbq.mono (by simp)); clear hbq)
    | ((with_reducible show wpList _ _ _ ({ dst := none, op := .store _ (.tmp 2) (.tmp 19), type := _, pos := _, after := _, guard := _ } :: _) _ _); refine wpl_store_st rfl (.tmp 2) (.tmp 19) rfl (n := 9) HZS.out w.heap.size #[.int .i64 0, .int .i64 0, .int .i64 0, .int .u64 0, .int .i64 0, .int .i64 0, .int .i64 0, .int .i64 0, .string ⟨#[]⟩] #[.int .i64 0, .int .i64 0, .int .i64 0, .int .u64 0, .int .i64 0, .int .i64 0, .int .i64 0, .int .i64 0, .string ⟨#[]⟩] rfl rfl hr0 ?_ (hid rfl) (hid rfl) (hid ezero_one); intro w7 HR7 HB7))
  exact bodyPost_ret (v := .tuple #[.agg #[.int .i64 0, .int .i64 0, .int .i64 0, .int .u64 0, .int .i64 0, .int .i64 0, .int .i64 0, .int .i64 0, .string ⟨#[]⟩], .bool false, .bool true]) (results_cell2 rfl _ _ w.heap.size 24 #[.int .i64 0, .int .i64 0, .int .i64 0, .int .u64 0, .int .i64 0, .int .i64 0, .int .i64 0, .int .i64 0, .string ⟨#[]⟩] (0, 0) _ (.bool false) (.bool true) rfl rfl rfl HR7.arr Tryd.underlying24 rfl (by exact HZS.out)) rfl
    ⟨rfl, hbe.trans (below_grown HB7 (Nat.le_refl _) hbe.size)⟩
set_option maxHeartbeats 1000000 in
theorem rent_bad (s : ByteArray) (T : ByteArray) (C : Array Value) (f : Int) (w : World) (h0 : (f != 0) = true) (hne : T.toList.isEmpty = false) (HSZ : Hid (C.size = 9)) (HSO : Hid (C.all (·.oneCell') = true))
    (HO : Hid (∀ W : World, Calls Tryd.prog 49 #[.string s] W fun e w' => e = .returned (.tuple #[.string T, .bool true]) ∧ Below W.heap.size W w'))
    (HU : Hid (∀ W : World, Calls Tryd.prog 50 #[.string T] W fun e w' => e = .returned (.tuple #[.agg C, .int .i64 f]) ∧ Below W.heap.size W w')) :
    Calls Tryd.prog 22 #[.string s] w (LQ w #[.int .i64 0, .int .i64 0, .int .i64 0, .int .u64 0, .int .i64 0, .int .i64 0, .int .i64 0, .int .i64 0, .string ⟨#[]⟩] false false) := by
  have HZS := hid esize
  go_enter Tryd.func22, Tryd.ntmps22
  go_wp2_with (first
    | (go_at_call 49; refine (HO.out _).mono ?_; rintro x w1 ⟨rfl, hbq⟩; have hr0 := (Row.new w 24 #[.int .i64 0, .int .i64 0, .int .i64 0, .int .u64 0, .int .i64 0, .int .i64 0, .int .i64 0, .int .i64 0, .string ⟨#[]⟩]).below hbq (by simp); have hbe := ((Below.refl w.heap.size w).alloc (Nat.le_refl _) (.cells #[.int .i64 0, .int .i64 0, .int .i64 0, .int .u64 0, .int .i64 0, .int .i64 0, .int .i64 0, .int .i64 0, .string ⟨#[]⟩] 24)).trans (hbq.mono (by simp)); clear hbq)
    | (go_at_call 50; refine (HU.out _).mono ?_; rintro x w2 ⟨rfl, hbq⟩; replace hr0 := hr0.below hbq hr0.lt; replace hbe := hbe.trans (hbq.mono hbe.size); clear hbq)
    | ((with_reducible show wpList _ _ _ ({ dst := none, op := .store _ (.tmp 7) (.tmp 23), type := _, pos := _, after := _, guard := _ } :: _) _ _); refine wpl_store_st rfl (.tmp 7) (.tmp 23) rfl (n := 9) HZS.out w2.heap.size #[.int .i64 0, .int .i64 0, .int .i64 0, .int .u64 0, .int .i64 0, .int .i64 0, .int .i64 0, .int .i64 0, .string ⟨#[]⟩] C rfl rfl (Row.new _ _ _) ?_ (hid rfl) HSZ HSO; intro wz hr7 HBz; replace hr0 := (hr0.alloc (.cells #[.int .i64 0, .int .i64 0, .int .i64 0, .int .u64 0, .int .i64 0, .int .i64 0, .int .i64 0, .int .i64 0, .string ⟨#[]⟩] 24)).grown HBz (by have := hr0.lt; intro e; have := Option.some.inj e; omega); replace hbe := (hbe.alloc hbe.size (.cells #[.int .i64 0, .int .i64 0, .int .i64 0, .int .u64 0, .int .i64 0, .int .i64 0, .int .i64 0, .int .i64 0, .string ⟨#[]⟩] 24)).trans (below_grown HBz hbe.size (by have := hbe.size; simp; omega)))
    | ((with_reducible show wpList _ _ _ ({ dst := none, op := .store _ (.tmp 2) (.tmp 27), type := _, pos := _, after := _, guard := _ } :: _) _ _); refine wpl_store_st rfl (.tmp 2) (.tmp 27) rfl (n := 9) HZS.out w.heap.size #[.int .i64 0, .int .i64 0, .int .i64 0, .int .u64 0, .int .i64 0, .int .i64 0, .int .i64 0, .int .i64 0, .string ⟨#[]⟩] #[.int .i64 0, .int .i64 0, .int .i64 0, .int .u64 0, .int .i64 0, .int .i64 0, .int .i64 0, .int .i64 0, .string ⟨#[]⟩] rfl rfl hr0 ?_ (hid rfl) (hid rfl) (hid ezero_one); intro w7 HR7 HB7))
  exact bodyPost_ret (v := .tuple #[.agg #[.int .i64 0, .int .i64 0, .int .i64 0, .int .u64 0, .int .i64 0, .int .i64 0, .int .i64 0, .int .i64 0, .string ⟨#[]⟩], .bool false, .bool false]) (results_cell2 rfl _ _ w.heap.size 24 #[.int .i64 0, .int .i64 0, .int .i64 0, .int .u64 0, .int .i64 0, .int .i64 0, .int .i64 0, .int .i64 0, .string ⟨#[]⟩] (0, 0) _ (.bool false) (.bool false) rfl rfl rfl HR7.arr Tryd.underlying24 rfl (by exact HZS.out)) rfl
    ⟨rfl, hbe.trans (below_grown HB7 (Nat.le_refl _) hbe.size)⟩
set_option maxHeartbeats 1000000 in
theorem rent_good (s : ByteArray) (T : ByteArray) (C : Array Value) (w : World) (hne : T.toList.isEmpty = false) (HSZ : Hid (C.size = 9)) (HSO : Hid (C.all (·.oneCell') = true))
    (HO : Hid (∀ W : World, Calls Tryd.prog 49 #[.string s] W fun e w' => e = .returned (.tuple #[.string T, .bool true]) ∧ Below W.heap.size W w'))
    (HU : Hid (∀ W : World, Calls Tryd.prog 50 #[.string T] W fun e w' => e = .returned (.tuple #[.agg C, .int .i64 0]) ∧ Below W.heap.size W w')) :
    Calls Tryd.prog 22 #[.string s] w (LQ w C true true) := by
  have HZS := hid esize
  go_enter Tryd.func22, Tryd.ntmps22
  go_wp2_with (first
    | (go_at_call 49; refine (HO.out _).mono ?_; rintro x w1 ⟨rfl, hbq⟩; have hr0 := (Row.new w 24 #[.int .i64 0, .int .i64 0, .int .i64 0, .int .u64 0, .int .i64 0, .int .i64 0, .int .i64 0, .int .i64 0, .string ⟨#[]⟩]).below hbq (by simp); have hbe := ((Below.refl w.heap.size w).alloc (Nat.le_refl _) (.cells #[.int .i64 0, .int .i64 0, .int .i64 0, .int .u64 0, .int .i64 0, .int .i64 0, .int .i64 0, .int .i64 0, .string ⟨#[]⟩] 24)).trans (hbq.mono (by simp)); clear hbq)
    | (go_at_call 50; refine (HU.out _).mono ?_; rintro x w2 ⟨rfl, hbq⟩; replace hr0 := hr0.below hbq hr0.lt; replace hbe := hbe.trans (hbq.mono hbe.size); clear hbq)
    | ((with_reducible show wpList _ _ _ ({ dst := none, op := .store _ (.tmp 7) (.tmp 23), type := _, pos := _, after := _, guard := _ } :: _) _ _); refine wpl_store_st rfl (.tmp 7) (.tmp 23) rfl (n := 9) HZS.out w2.heap.size #[.int .i64 0, .int .i64 0, .int .i64 0, .int .u64 0, .int .i64 0, .int .i64 0, .int .i64 0, .int .i64 0, .string ⟨#[]⟩] C rfl rfl (Row.new _ _ _) ?_ (hid rfl) HSZ HSO; intro wz hr7 HBz; replace hr0 := (hr0.alloc (.cells #[.int .i64 0, .int .i64 0, .int .i64 0, .int .u64 0, .int .i64 0, .int .i64 0, .int .i64 0, .int .i64 0, .string ⟨#[]⟩] 24)).grown HBz (by have := hr0.lt; intro e; have := Option.some.inj e; omega); replace hbe := (hbe.alloc hbe.size (.cells #[.int .i64 0, .int .i64 0, .int .i64 0, .int .u64 0, .int .i64 0, .int .i64 0, .int .i64 0, .int .i64 0, .string ⟨#[]⟩] 24)).trans (below_grown HBz hbe.size (by have := hbe.size; simp; omega)))
    | (refine wpList_load_row rfl 24 (.tmp 7) rfl w2.heap.size rfl 24 C (0, 0) _ hr7.arr Tryd.underlying24 rfl (by rw [HSZ.out]; exact HZS.out) ?_)
    | ((with_reducible show wpList _ _ _ ({ dst := none, op := .store _ (.tmp 2) (.tmp 28), type := _, pos := _, after := _, guard := _ } :: _) _ _); refine wpl_store_st rfl (.tmp 2) (.tmp 28) rfl (n := 9) HZS.out w.heap.size #[.int .i64 0, .int .i64 0, .int .i64 0, .int .u64 0, .int .i64 0, .int .i64 0, .int .i64 0, .int .i64 0, .string ⟨#[]⟩] C rfl rfl hr0 ?_ (hid rfl) HSZ HSO; intro w7 HR7 HB7))
  exact bodyPost_ret (v := .tuple #[.agg C, .bool true, .bool true]) (results_cell2 rfl _ _ w.heap.size 24 C (0, 0) _ (.bool true) (.bool true) rfl rfl rfl HR7.arr Tryd.underlying24 rfl (by rw [HSZ.out]; exact HZS.out)) rfl
    ⟨rfl, hbe.trans (below_grown HB7 (Nat.le_refl _) hbe.size)⟩
set_option maxHeartbeats 1000000 in
theorem rstb_off (s : ByteArray)  (w : World) (HO : Hid (∀ W : World, Calls Tryd.prog 49 #[.string s] W fun e w' => e = .returned (.tuple #[.string ⟨#[]⟩, .bool false]) ∧ Below W.heap.size W w')) :
    Calls Tryd.prog 23 #[.string s] w (LQ w #[.int .i64 0, .int .i64 0, .int .i64 0, .int .u64 0, .int .u64 0] false false) := by
  have HZS := hid stsize
  go_enter Tryd.func23, Tryd.ntmps23
  go_wp2_with (first
    | (go_at_call 49; refine (HO.out _).mono ?_; rintro x w1 ⟨rfl, hbq⟩; have hr0 := (Row.new w 26 #[.int .i64 0, .int .i64 0, .int .i64 0, .int .u64 0, .int .u64 0]).below hbq (by simp); have hbe := ((Below.refl w.heap.size w).alloc (Nat.le_refl _) (.cells #[.int .i64 0, .int .i64 0, .int .i64 0, .int .u64 0, .int .u64 0] 26)).trans (hbq.mono (by simp)); clear hbq)
    | ((with_reducible show wpList _ _ _ ({ dst := none, op := .store _ (.tmp 2) (.tmp 17), type := _, pos := _, after := _, guard := _ } :: _) _ _); refine wpl_store_st rfl (.tmp 2) (.tmp 17) rfl (n := 5) HZS.out w.heap.size #[.int .i64 0, .int .i64 0, .int .i64 0, .int .u64 0, .int .u64 0] #[.int .i64 0, .int .i64 0, .int .i64 0, .int .u64 0, .int .u64 0] rfl rfl hr0 ?_ (hid rfl) (hid rfl) (hid szero_one); intro w7 HR7 HB7))
  exact bodyPost_ret (v := .tuple #[.agg #[.int .i64 0, .int .i64 0, .int .i64 0, .int .u64 0, .int .u64 0], .bool false, .bool false]) (results_cell2 rfl _ _ w.heap.size 26 #[.int .i64 0, .int .i64 0, .int .i64 0, .int .u64 0, .int .u64 0] (0, 0) _ (.bool false) (.bool false) rfl rfl rfl HR7.arr Tryd.underlying26 rfl (by exact HZS.out)) rfl
    ⟨rfl, hbe.trans (below_grown HB7 (Nat.le_refl _) hbe.size)⟩
set_option maxHeartbeats 1000000 in
theorem rstb_void (s : ByteArray)  (w : World) (HO : Hid (∀ W : World, Calls Tryd.prog 49 #[.string s] W fun e w' => e = .returned (.tuple #[.string ⟨#[]⟩, .bool true]) ∧ Below W.heap.size W w')) :
    Calls Tryd.prog 23 #[.string s] w (LQ w #[.int .i64 0, .int .i64 0, .int .i64 0, .int .u64 0, .int .u64 0] false true) := by
  have HZS := hid stsize
  go_enter Tryd.func23, Tryd.ntmps23
  go_wp2_with (first
    | (go_at_call 49; refine (HO.out _).mono ?_; rintro x w1 ⟨rfl, hbq⟩; have hr0 := (Row.new w 26 #[.int .i64 0, .int .i64 0, .int .i64 0, .int .u64 0, .int .u64 0]).below hbq (by simp); have hbe := ((Below.refl w.heap.size w).alloc (Nat.le_refl _) (.cells #[.int .i64 0, .int .i64 0, .int .i64 0, .int .u64 0, .int .u64 0] 26)).trans (hbq.mono (by simp)); clear hbq)
    | ((with_reducible show wpList _ _ _ ({ dst := none, op := .store _ (.tmp 2) (.tmp 20), type := _, pos := _, after := _, guard := _ } :: _) _ _); refine wpl_store_st rfl (.tmp 2) (.tmp 20) rfl (n := 5) HZS.out w.heap.size #[.int .i64 0, .int .i64 0, .int .i64 0, .int .u64 0, .int .u64 0] #[.int .i64 0, .int .i64 0, .int .i64 0, .int .u64 0, .int .u64 0] rfl rfl hr0 ?_ (hid rfl) (hid rfl) (hid szero_one); intro w7 HR7 HB7))
  exact bodyPost_ret (v := .tuple #[.agg #[.int .i64 0, .int .i64 0, .int .i64 0, .int .u64 0, .int .u64 0], .bool false, .bool true]) (results_cell2 rfl _ _ w.heap.size 26 #[.int .i64 0, .int .i64 0, .int .i64 0, .int .u64 0, .int .u64 0] (0, 0) _ (.bool false) (.bool true) rfl rfl rfl HR7.arr Tryd.underlying26 rfl (by exact HZS.out)) rfl
    ⟨rfl, hbe.trans (below_grown HB7 (Nat.le_refl _) hbe.size)⟩
set_option maxHeartbeats 1000000 in
theorem rstb_len (s : ByteArray) (T : ByteArray) (w : World) (h0 : (((T.size : Nat) : Int) != 40) = true) (hne : T.toList.isEmpty = false)
    (HO : Hid (∀ W : World, Calls Tryd.prog 49 #[.string s] W fun e w' => e = .returned (.tuple #[.string T, .bool true]) ∧ Below W.heap.size W w'))
     :
    Calls Tryd.prog 23 #[.string s] w (LQ w #[.int .i64 0, .int .i64 0, .int .i64 0, .int .u64 0, .int .u64 0] false false) := by
  have HZS := hid stsize
  go_enter Tryd.func23, Tryd.ntmps23
  go_wp2_with (first
    | (go_at_call 49; refine (HO.out _).mono ?_; rintro x w1 ⟨rfl, hbq⟩; have hr0 := (Row.new w 26 #[.int .i64 0, .int .i64 0, .int .i64 0, .int .u64 0, .int .u64 0]).below hbq (by simp); have hbe := ((Below.refl w.heap.size w).alloc (Nat.le_refl _) (.cells #[.int .i64 0, .int .i64 0, .int .i64 0, .int .u64 0, .int .u64 0] 26)).trans (hbq.mono (by simp)); clear hbq)
    | ((with_reducible show wpList _ _ _ ({ dst := none, op := .store _ (.tmp 2) (.tmp 24), type := _, pos := _, after := _, guard := _ } :: _) _ _); refine wpl_store_st rfl (.tmp 2) (.tmp 24) rfl (n := 5) HZS.out w.heap.size #[.int .i64 0, .int .i64 0, .int .i64 0, .int .u64 0, .int .u64 0] #[.int .i64 0, .int .i64 0, .int .i64 0, .int .u64 0, .int .u64 0] rfl rfl hr0 ?_ (hid rfl) (hid rfl) (hid szero_one); intro w7 HR7 HB7))
  exact bodyPost_ret (v := .tuple #[.agg #[.int .i64 0, .int .i64 0, .int .i64 0, .int .u64 0, .int .u64 0], .bool false, .bool false]) (results_cell2 rfl _ _ w.heap.size 26 #[.int .i64 0, .int .i64 0, .int .i64 0, .int .u64 0, .int .u64 0] (0, 0) _ (.bool false) (.bool false) rfl rfl rfl HR7.arr Tryd.underlying26 rfl (by exact HZS.out)) rfl
    ⟨rfl, hbe.trans (below_grown HB7 (Nat.le_refl _) hbe.size)⟩
set_option maxHeartbeats 1000000 in
theorem rstb_bad (s : ByteArray) (T B : ByteArray) (n0 n1 n2 n3 n4 : Nat) (w : World) (h0 : (((T.size : Nat) : Int) != 40) = false) (hne : T.toList.isEmpty = false)
    (HO : Hid (∀ W : World, Calls Tryd.prog 49 #[.string s] W fun e w' => e = .returned (.tuple #[.string T, .bool true]) ∧ Below W.heap.size W w'))
    (HA0 : Hid (∀ W : World, Calls Tryd.prog 51 #[.string T, .int .i64 0] W (VE W (.int .u64 (n0 : Int)))))
    (HA1 : Hid (∀ W : World, Calls Tryd.prog 51 #[.string T, .int .i64 8] W (VE W (.int .u64 (n1 : Int)))))
    (HA2 : Hid (∀ W : World, Calls Tryd.prog 51 #[.string T, .int .i64 16] W (VE W (.int .u64 (n2 : Int)))))
    (HA3 : Hid (∀ W : World, Calls Tryd.prog 51 #[.string T, .int .i64 24] W (VE W (.int .u64 (n3 : Int)))))
    (HA4 : Hid (∀ W : World, Calls Tryd.prog 51 #[.string T, .int .i64 32] W (VE W (.int .u64 (n4 : Int)))))
    (HBy : Hid (∀ W : World, Calls Tryd.prog 41 #[.agg #[.int .i64 (wrap64 (n0 : Int)), .int .i64 (wrap64 (n1 : Int)), .int .i64 (wrap64 (n2 : Int)), .int .u64 (n3 : Int), .int .u64 (n4 : Int)]] W fun e w' => e = .returned (.tuple #[.string B, .bool false]) ∧ Below W.heap.size W w')) :
    Calls Tryd.prog 23 #[.string s] w (LQ w #[.int .i64 0, .int .i64 0, .int .i64 0, .int .u64 0, .int .u64 0] false false) := by
  have HZS := hid stsize
  go_enter Tryd.func23, Tryd.ntmps23
  go_wp2_with (first
    | (go_at_call 49; refine (HO.out _).mono ?_; rintro x w1 ⟨rfl, hbq⟩; have hr0 := (Row.new w 26 #[.int .i64 0, .int .i64 0, .int .i64 0, .int .u64 0, .int .u64 0]).below hbq (by simp); have hbe := ((Below.refl w.heap.size w).alloc (Nat.le_refl _) (.cells #[.int .i64 0, .int .i64 0, .int .i64 0, .int .u64 0, .int .u64 0] 26)).trans (hbq.mono (by simp)); clear hbq)
    | (go_at_call_of 51 (Value.int IntKind.i64 0); refine (HA0.out _).mono ?_; rintro x wa0 ⟨rfl, hbq⟩; replace hr0 := hr0.below hbq hr0.lt; replace hbe := hbe.trans (hbq.mono hbe.size); clear hbq)
    | (go_at_call_of 51 (Value.int IntKind.i64 8); refine (HA1.out _).mono ?_; rintro x wa1 ⟨rfl, hbq⟩; replace hr0 := hr0.below hbq hr0.lt; replace hbe := hbe.trans (hbq.mono hbe.size); clear hbq)
    | (go_at_call_of 51 (Value.int IntKind.i64 16); refine (HA2.out _).mono ?_; rintro x wa2 ⟨rfl, hbq⟩; replace hr0 := hr0.below hbq hr0.lt; replace hbe := hbe.trans (hbq.mono hbe.size); clear hbq)
    | (go_at_call_of 51 (Value.int IntKind.i64 24); refine (HA3.out _).mono ?_; rintro x wa3 ⟨rfl, hbq⟩; replace hr0 := hr0.below hbq hr0.lt; replace hbe := hbe.trans (hbq.mono hbe.size); clear hbq)
    | (go_at_call_of 51 (Value.int IntKind.i64 32); refine (HA4.out _).mono ?_; rintro x wa4 ⟨rfl, hbq⟩; replace hr0 := hr0.below hbq hr0.lt; replace hbe := hbe.trans (hbq.mono hbe.size); clear hbq)
    | ((with_reducible show wpList _ _ _ ({ dst := none, op := .store _ (.tmp 7) (.tmp 38), type := _, pos := _, after := _, guard := _ } :: _) _ _); refine wpl_store_st rfl (.tmp 7) (.tmp 38) rfl (n := 5) HZS.out wa4.heap.size #[.int .i64 0, .int .i64 0, .int .i64 0, .int .u64 0, .int .u64 0] #[.int .i64 (wrap64 (n0 : Int)), .int .i64 (wrap64 (n1 : Int)), .int .i64 (wrap64 (n2 : Int)), .int .u64 (n3 : Int), .int .u64 (n4 : Int)] rfl rfl (Row.new _ _ _) ?_ (hid rfl) (hid rfl) (hid (by simp [Value.oneCell'])); intro wz hr7 HBz; replace hr0 := (hr0.alloc (.cells #[.int .i64 0, .int .i64 0, .int .i64 0, .int .u64 0, .int .u64 0] 26)).grown HBz (by have := hr0.lt; intro e; have := Option.some.inj e; omega); replace hbe := (hbe.alloc hbe.size (.cells #[.int .i64 0, .int .i64 0, .int .i64 0, .int .u64 0, .int .u64 0] 26)).trans (below_grown HBz hbe.size (by have := hbe.size; simp; omega)))
    | (refine wpList_load_row rfl 26 (.tmp 7) rfl wa4.heap.size rfl 26 #[.int .i64 (wrap64 (n0 : Int)), .int .i64 (wrap64 (n1 : Int)), .int .i64 (wrap64 (n2 : Int)), .int .u64 (n3 : Int), .int .u64 (n4 : Int)] (0, 0) _ (Row.arr (cs := #[.int .i64 (wrap64 (n0 : Int)), .int .i64 (wrap64 (n1 : Int)), .int .i64 (wrap64 (n2 : Int)), .int .u64 (n3 : Int), .int .u64 (n4 : Int)]) hr7) Tryd.underlying26 rfl HZS.out ?_)
    | (go_at_call 41; refine (HBy.out _).mono ?_; rintro x wb ⟨rfl, hbq⟩; replace hr7 := hr7.below hbq hr7.lt; replace hr0 := hr0.below hbq hr0.lt; replace hbe := hbe.trans (hbq.mono hbe.size); clear hbq)
    | ((with_reducible show wpList _ _ _ ({ dst := none, op := .store _ (.tmp 2) (.tmp 51), type := _, pos := _, after := _, guard := _ } :: _) _ _); refine wpl_store_st rfl (.tmp 2) (.tmp 51) rfl (n := 5) HZS.out w.heap.size #[.int .i64 0, .int .i64 0, .int .i64 0, .int .u64 0, .int .u64 0] #[.int .i64 0, .int .i64 0, .int .i64 0, .int .u64 0, .int .u64 0] rfl rfl hr0 ?_ (hid rfl) (hid rfl) (hid szero_one); intro w7 HR7 HB7))
  exact bodyPost_ret (v := .tuple #[.agg #[.int .i64 0, .int .i64 0, .int .i64 0, .int .u64 0, .int .u64 0], .bool false, .bool false]) (results_cell2 rfl _ _ w.heap.size 26 #[.int .i64 0, .int .i64 0, .int .i64 0, .int .u64 0, .int .u64 0] (0, 0) _ (.bool false) (.bool false) rfl rfl rfl HR7.arr Tryd.underlying26 rfl (by exact HZS.out)) rfl
    ⟨rfl, hbe.trans (below_grown HB7 (Nat.le_refl _) hbe.size)⟩
set_option maxHeartbeats 1000000 in
theorem rstb_good (s : ByteArray) (T : ByteArray) (n0 n1 n2 n3 n4 : Nat) (w : World) (h0 : (((T.size : Nat) : Int) != 40) = false) (hne : T.toList.isEmpty = false)
    (HO : Hid (∀ W : World, Calls Tryd.prog 49 #[.string s] W fun e w' => e = .returned (.tuple #[.string T, .bool true]) ∧ Below W.heap.size W w'))
    (HA0 : Hid (∀ W : World, Calls Tryd.prog 51 #[.string T, .int .i64 0] W (VE W (.int .u64 (n0 : Int)))))
    (HA1 : Hid (∀ W : World, Calls Tryd.prog 51 #[.string T, .int .i64 8] W (VE W (.int .u64 (n1 : Int)))))
    (HA2 : Hid (∀ W : World, Calls Tryd.prog 51 #[.string T, .int .i64 16] W (VE W (.int .u64 (n2 : Int)))))
    (HA3 : Hid (∀ W : World, Calls Tryd.prog 51 #[.string T, .int .i64 24] W (VE W (.int .u64 (n3 : Int)))))
    (HA4 : Hid (∀ W : World, Calls Tryd.prog 51 #[.string T, .int .i64 32] W (VE W (.int .u64 (n4 : Int)))))
    (HBy : Hid (∀ W : World, Calls Tryd.prog 41 #[.agg #[.int .i64 (wrap64 (n0 : Int)), .int .i64 (wrap64 (n1 : Int)), .int .i64 (wrap64 (n2 : Int)), .int .u64 (n3 : Int), .int .u64 (n4 : Int)]] W fun e w' => e = .returned (.tuple #[.string T, .bool true]) ∧ Below W.heap.size W w')) :
    Calls Tryd.prog 23 #[.string s] w (LQ w #[.int .i64 (wrap64 (n0 : Int)), .int .i64 (wrap64 (n1 : Int)), .int .i64 (wrap64 (n2 : Int)), .int .u64 (n3 : Int), .int .u64 (n4 : Int)] true true) := by
  have HZS := hid stsize
  go_enter Tryd.func23, Tryd.ntmps23
  go_wp2_with (first
    | (go_at_call 49; refine (HO.out _).mono ?_; rintro x w1 ⟨rfl, hbq⟩; have hr0 := (Row.new w 26 #[.int .i64 0, .int .i64 0, .int .i64 0, .int .u64 0, .int .u64 0]).below hbq (by simp); have hbe := ((Below.refl w.heap.size w).alloc (Nat.le_refl _) (.cells #[.int .i64 0, .int .i64 0, .int .i64 0, .int .u64 0, .int .u64 0] 26)).trans (hbq.mono (by simp)); clear hbq)
    | (go_at_call_of 51 (Value.int IntKind.i64 0); refine (HA0.out _).mono ?_; rintro x wa0 ⟨rfl, hbq⟩; replace hr0 := hr0.below hbq hr0.lt; replace hbe := hbe.trans (hbq.mono hbe.size); clear hbq)
    | (go_at_call_of 51 (Value.int IntKind.i64 8); refine (HA1.out _).mono ?_; rintro x wa1 ⟨rfl, hbq⟩; replace hr0 := hr0.below hbq hr0.lt; replace hbe := hbe.trans (hbq.mono hbe.size); clear hbq)
    | (go_at_call_of 51 (Value.int IntKind.i64 16); refine (HA2.out _).mono ?_; rintro x wa2 ⟨rfl, hbq⟩; replace hr0 := hr0.below hbq hr0.lt; replace hbe := hbe.trans (hbq.mono hbe.size); clear hbq)
    | (go_at_call_of 51 (Value.int IntKind.i64 24); refine (HA3.out _).mono ?_; rintro x wa3 ⟨rfl, hbq⟩; replace hr0 := hr0.below hbq hr0.lt; replace hbe := hbe.trans (hbq.mono hbe.size); clear hbq)
    | (go_at_call_of 51 (Value.int IntKind.i64 32); refine (HA4.out _).mono ?_; rintro x wa4 ⟨rfl, hbq⟩; replace hr0 := hr0.below hbq hr0.lt; replace hbe := hbe.trans (hbq.mono hbe.size); clear hbq)
    | ((with_reducible show wpList _ _ _ ({ dst := none, op := .store _ (.tmp 7) (.tmp 38), type := _, pos := _, after := _, guard := _ } :: _) _ _); refine wpl_store_st rfl (.tmp 7) (.tmp 38) rfl (n := 5) HZS.out wa4.heap.size #[.int .i64 0, .int .i64 0, .int .i64 0, .int .u64 0, .int .u64 0] #[.int .i64 (wrap64 (n0 : Int)), .int .i64 (wrap64 (n1 : Int)), .int .i64 (wrap64 (n2 : Int)), .int .u64 (n3 : Int), .int .u64 (n4 : Int)] rfl rfl (Row.new _ _ _) ?_ (hid rfl) (hid rfl) (hid (by simp [Value.oneCell'])); intro wz hr7 HBz; replace hr0 := (hr0.alloc (.cells #[.int .i64 0, .int .i64 0, .int .i64 0, .int .u64 0, .int .u64 0] 26)).grown HBz (by have := hr0.lt; intro e; have := Option.some.inj e; omega); replace hbe := (hbe.alloc hbe.size (.cells #[.int .i64 0, .int .i64 0, .int .i64 0, .int .u64 0, .int .u64 0] 26)).trans (below_grown HBz hbe.size (by have := hbe.size; simp; omega)))
    | (refine wpList_load_row rfl 26 (.tmp 7) rfl wa4.heap.size rfl 26 #[.int .i64 (wrap64 (n0 : Int)), .int .i64 (wrap64 (n1 : Int)), .int .i64 (wrap64 (n2 : Int)), .int .u64 (n3 : Int), .int .u64 (n4 : Int)] (0, 0) _ (Row.arr (cs := #[.int .i64 (wrap64 (n0 : Int)), .int .i64 (wrap64 (n1 : Int)), .int .i64 (wrap64 (n2 : Int)), .int .u64 (n3 : Int), .int .u64 (n4 : Int)]) hr7) Tryd.underlying26 rfl HZS.out ?_)
    | (go_at_call 41; refine (HBy.out _).mono ?_; rintro x wb ⟨rfl, hbq⟩; replace hr7 := hr7.below hbq hr7.lt; replace hr0 := hr0.below hbq hr0.lt; replace hbe := hbe.trans (hbq.mono hbe.size); clear hbq)
    | ((with_reducible show wpList _ _ _ ({ dst := none, op := .store _ (.tmp 2) (.tmp 52), type := _, pos := _, after := _, guard := _ } :: _) _ _); refine wpl_store_st rfl (.tmp 2) (.tmp 52) rfl (n := 5) HZS.out w.heap.size #[.int .i64 0, .int .i64 0, .int .i64 0, .int .u64 0, .int .u64 0] #[.int .i64 (wrap64 (n0 : Int)), .int .i64 (wrap64 (n1 : Int)), .int .i64 (wrap64 (n2 : Int)), .int .u64 (n3 : Int), .int .u64 (n4 : Int)] rfl rfl hr0 ?_ (hid rfl) (hid rfl) (hid (by simp [Value.oneCell'])); intro w7 HR7 HB7))
  exact bodyPost_ret (v := .tuple #[.agg #[.int .i64 (wrap64 (n0 : Int)), .int .i64 (wrap64 (n1 : Int)), .int .i64 (wrap64 (n2 : Int)), .int .u64 (n3 : Int), .int .u64 (n4 : Int)], .bool true, .bool true]) (results_cell2 rfl _ _ w.heap.size 26 #[.int .i64 (wrap64 (n0 : Int)), .int .i64 (wrap64 (n1 : Int)), .int .i64 (wrap64 (n2 : Int)), .int .u64 (n3 : Int), .int .u64 (n4 : Int)] (0, 0) _ (.bool true) (.bool true) rfl rfl rfl HR7.arr Tryd.underlying26 rfl (by exact HZS.out)) rfl
    ⟨rfl, hbe.trans (below_grown HB7 (Nat.le_refl _) hbe.size)⟩
theorem rentry_any (s : ByteArray) (w : World) : Calls Tryd.prog 22 #[.string s] w (LQ w (entryS (sb s)).1.cells (entryS (sb s)).2.1 (entryS (sb s)).2.2) := by
  have HO : Hid (∀ W : World, Calls Tryd.prog 49 #[.string s] W fun e w' => e = .returned (.tuple #[.string ⟨(openS (sb s)).1.toArray⟩, .bool (openS (sb s)).2]) ∧ Below W.heap.size W w') := hid fun W => ropen_calls s W
  have hsz : (openS (sb s)).1.length ≤ 376 := openS_len _
  have hno := openS_no (sb s)
  unfold entryS
  generalize openS (sb s) = r at *
  obtain ⟨l, b⟩ := r
  simp only at hno hsz
  by_cases h0 : l = []
  · subst h0
    rw [if_pos rfl]
    cases b
    · exact rent_off s w HO
    · exact rent_void s w HO
  · rw [if_neg h0]
    have hb : b = true := by
      cases b
      · exact absurd (hno rfl) h0
      · rfl
    subst hb
    have HU := hid (fun W => r9_any ⟨l.toArray⟩ W (by rw [← sb_len, sb_mk]; omega))
    rw [sb_mk] at HU
    simp only
    by_cases h1 : (unpackE l).2 = 0
    · rw [if_pos h1]
      have e : unpackE l = ((unpackE l).1, 0) := by rw [← h1]
      rw [e] at HU
      exact rent_good s ⟨l.toArray⟩ _ w (full_l h0) (hid rfl) (hid (ecells_one _)) HO HU
    · rw [if_neg h1]
      exact rent_bad s ⟨l.toArray⟩ _ _ w (by simpa using h1) (full_l h0) (hid rfl) (hid (ecells_one _)) HO HU
theorem rstubT_any (s : ByteArray) (w : World) : Calls Tryd.prog 23 #[.string s] w (LQ w (stubT (sb s)).1.cells (stubT (sb s)).2.1 (stubT (sb s)).2.2) := by
  have HO : Hid (∀ W : World, Calls Tryd.prog 49 #[.string s] W fun e w' => e = .returned (.tuple #[.string ⟨(openS (sb s)).1.toArray⟩, .bool (openS (sb s)).2]) ∧ Below W.heap.size W w') := hid fun W => ropen_calls s W
  have hno := openS_no (sb s)
  unfold stubT
  generalize openS (sb s) = r at *
  obtain ⟨l, b⟩ := r
  simp only at hno
  by_cases h0 : l = []
  · subst h0
    rw [if_pos rfl]
    cases b
    · exact rstb_off s w HO
    · exact rstb_void s w HO
  · rw [if_neg h0]
    have hb : b = true := by
      cases b
      · exact absurd (hno rfl) h0
      · rfl
    subst hb
    simp only
    have hls : (⟨l.toArray⟩ : ByteArray).size = l.length := by rw [← sb_len, sb_mk]
    by_cases hl : l.length = 40
    · have HA : ∀ k, k < 5 → Hid (∀ W : World, Calls Tryd.prog 51 #[.string ⟨l.toArray⟩, .int .i64 ((8 * k : Nat) : Int)] W (VE W (.int .u64 ((tn l k : Nat) : Int)))) := fun k hk => hid fun W => by
        have h := at_any ⟨l.toArray⟩ (8 * k) W (by omega) (by omega)
        rw [sb_mk] at h
        exact h
      have HBy := hid (fun W => rbyT_any (stOf (takeT l)) (stOf_fits _ (takeT_len l) (takeT_lt l)) W)
      unfold bytesS at HBy
      by_cases hS : SRt (stOf (takeT l))
      · have e : unpackT l = (stOf (takeT l), 0) := by
          unfold unpackT
          rw [if_pos ⟨hl, hS⟩]
        rw [e, if_pos rfl]
        rw [if_pos hS, sbytes_of l hl] at HBy
        exact rstb_good s ⟨l.toArray⟩ (tn l 0) (tn l 1) (tn l 2) (tn l 3) (tn l 4) w (by simp; omega) (full_l h0) HO (HA 0 (by omega)) (HA 1 (by omega)) (HA 2 (by omega)) (HA 3 (by omega)) (HA 4 (by omega)) HBy
      · have e : unpackT l = (st0, 4) := by
          unfold unpackT
          rw [if_neg (fun h => hS h.2)]
        rw [e, if_neg (by decide)]
        rw [if_neg hS] at HBy
        exact rstb_bad s ⟨l.toArray⟩ _ (tn l 0) (tn l 1) (tn l 2) (tn l 3) (tn l 4) w (by simp; omega) (full_l h0) HO (HA 0 (by omega)) (HA 1 (by omega)) (HA 2 (by omega)) (HA 3 (by omega)) (HA 4 (by omega)) HBy
    · have e : unpackT l = (st0, 4) := by
        unfold unpackT
        rw [if_neg (fun h => hl h.1)]
      rw [e, if_neg (by decide)]
      exact rstb_len s ⟨l.toArray⟩ w (by simp; omega) (full_l h0) HO
end Go.Proofs.YtdcoiehhnllhmaaDoor
