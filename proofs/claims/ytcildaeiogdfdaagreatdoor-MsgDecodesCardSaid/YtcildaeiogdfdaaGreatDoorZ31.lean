/-
  The program's layItem.
-/
import Derived.Test.YtcildaeiogdfdaaGreatDoorZ30
import Derived.Test.YtcildaeiogdfdaaGreatDoorZ24
import Derived.Test.YtcildaeiogdfdaaGreatDoorZ21
import Derived.Test.YtcildaeiogdfdaaGreatDoorZ29
import Derived.Deep.RegionHeld
namespace Go.Proofs.YtcildaeiogdfdaaGreatDoor
open Go.RowKit
set_option maxRecDepth 10000

theorem item_kinds {x : It} (h : itemR x) : x.kind = 0 ∨ x.kind = 1 ∨ x.kind = 2 ∨ x.kind = 3 := by
  unfold itemR at h
  by_cases h1 : x.kind = 1
  · exact .inr (.inl h1)
  · by_cases h2 : x.kind = 2
    · exact .inr (.inr (.inl h2))
    · rw [if_neg h1, if_neg h2] at h
      rcases h.1 with h | h
      · exact .inl h
      · exact .inr (.inr (.inr h))
theorem Row.grownV {W W' : World} {g : Nat} {t : TypeId} {cs : List Value} {v : Value} (h : Row W g t cs) (hg : W.grownBy W' v.ownBlock) (hne : some g ≠ v.ownBlock) : Row W' g t cs := (hg.block g h.lt hne).trans h
set_option maxHeartbeats 4000000 in
theorem layItem_0 (v : Value) (bs : List UInt8) (x : It) (D : Nat) (w : World) (hown : w.ownsRow D 5 1 v bs.length (bvs bs)) (hD : D ≤ w.heap.size) (_hx : x.fits) (_hr : itemR x) (_hfd : ∀ W, Below D w W → Fd W) (hbs : bs.length ≤ 90000) (hk : x.kind = 0) :
    Calls Tryz.prog 42 #[v, .agg x.cells] w (LY w D (bs ++ itemB x)) := by
  obtain ⟨i0, hi, hz0, hz1, hz2⟩ := info_parts u8info
  have HZE := hid esize
  have HZS := hid stsizeM
  have HDD := hid hD
  have HK := hid hk
  have HIB : Hid (itemB x = [UInt8.ofNat 0] ++ []) := hid (by unfold itemB; rw [hk]; rfl)
  have HO0 := hid (own_allocM hown (.cells x.cells 62))
  have HB0 : Hid (Below D w (w.alloc (.cells x.cells 62))) := hid ((Below.refl _ _).alloc hD _)
  have R1 : Hid (Row (w.alloc (.cells x.cells 62)) w.heap.size 62 x.cells.toList) := hid (Row.new _ _ _)
  have a0 : (w.alloc (.cells x.cells 62)).cell? ⟨w.heap.size, 0, none⟩ = some (.int .i64 0) := by rw [R1.out.cell]; show some (Value.int .i64 x.kind) = _; rw [hk]
  have HNE : Hid (some w.heap.size ≠ v.ownBlock) := hid (fun e => by have := (hown.lt _ e.symm).2; omega)
  have HOB : Hid (Rd ((w.alloc (.cells x.cells 62)).alloc (.cells #[.int .u8 0] 5)) (w.heap.size + 1 + 1) (some ⟨w.heap.size + 1, 0, none⟩) (bvs [UInt8.ofNat 0])) := hid (by have := one_byte (w.alloc (.cells x.cells 62)) 0 (by omega); simpa using this)
  clear hown hk _hr _hx _hfd
  go_enter Tryz.func42, Tryz.ntmps42
  go_wp2_with (first
    | (refine wpl_append rfl (.tmp 6) (.tmp 10) 47 rfl D 5 i0 _ 1 1 Tryz.underlying47 hi hz0 hz1 hz2 rfl (by omega) v bs.length _ rfl (own_allocM HO0.out _) (w.heap.size + 1 + 1) (some ⟨w.heap.size + 1, 0, none⟩) 1 1 (bvs [UInt8.ofNat 0]) rfl ?_ HOB (hid rfl) (hid (bvs_oneM _)) (hid (le_maxLen (by omega))) (hid (by omega)) (hid (by simp; omega)); intro v3 w3 hown3 hb3 hg3; have HO3 : Hid (w3.ownsRow D 5 1 v3 (bs ++ [UInt8.ofNat 0]).length (bvs (bs ++ [UInt8.ofNat 0]))) := hid (by rw [List.length_append, bvs_app]; exact hown3); have R3 := hid ((R1.out.alloc (.cells #[.int .u8 0] 5)).grownV hg3.out HNE.out); have HB3 := hid ((HB0.out.alloc (by simp; omega) (.cells #[.int .u8 0] 5)).trans hb3); have b0 : w3.cell? ⟨w.heap.size, 0, none⟩ = some (.int .i64 0) := (by rw [R3.out.cell]; show some (Value.int .i64 x.kind) = _; rw [HK.out]); clear hown3 hb3 hg3))
  go_ret
  refine ⟨_, rfl, ?_, HB3.out⟩
  rw [HIB.out, List.append_nil]
  exact HO3.out
set_option maxHeartbeats 4000000 in
theorem layItem_3 (v : Value) (bs : List UInt8) (x : It) (D : Nat) (w : World) (hown : w.ownsRow D 5 1 v bs.length (bvs bs)) (hD : D ≤ w.heap.size) (_hx : x.fits) (_hr : itemR x) (_hfd : ∀ W, Below D w W → Fd W) (hbs : bs.length ≤ 90000) (hk : x.kind = 3) :
    Calls Tryz.prog 42 #[v, .agg x.cells] w (LY w D (bs ++ itemB x)) := by
  obtain ⟨i0, hi, hz0, hz1, hz2⟩ := info_parts u8info
  have HZE := hid esize
  have HZS := hid stsizeM
  have HDD := hid hD
  have HK := hid hk
  have HIB : Hid (itemB x = [UInt8.ofNat 3] ++ []) := hid (by unfold itemB; rw [hk]; rfl)
  have HO0 := hid (own_allocM hown (.cells x.cells 62))
  have HB0 : Hid (Below D w (w.alloc (.cells x.cells 62))) := hid ((Below.refl _ _).alloc hD _)
  have R1 : Hid (Row (w.alloc (.cells x.cells 62)) w.heap.size 62 x.cells.toList) := hid (Row.new _ _ _)
  have a0 : (w.alloc (.cells x.cells 62)).cell? ⟨w.heap.size, 0, none⟩ = some (.int .i64 3) := by rw [R1.out.cell]; show some (Value.int .i64 x.kind) = _; rw [hk]
  have HNE : Hid (some w.heap.size ≠ v.ownBlock) := hid (fun e => by have := (hown.lt _ e.symm).2; omega)
  have HOB : Hid (Rd ((w.alloc (.cells x.cells 62)).alloc (.cells #[.int .u8 3] 5)) (w.heap.size + 1 + 1) (some ⟨w.heap.size + 1, 0, none⟩) (bvs [UInt8.ofNat 3])) := hid (by have := one_byte (w.alloc (.cells x.cells 62)) 3 (by omega); simpa using this)
  clear hown hk _hr _hx _hfd
  go_enter Tryz.func42, Tryz.ntmps42
  go_wp2_with (first
    | (refine wpl_append rfl (.tmp 6) (.tmp 10) 47 rfl D 5 i0 _ 1 1 Tryz.underlying47 hi hz0 hz1 hz2 rfl (by omega) v bs.length _ rfl (own_allocM HO0.out _) (w.heap.size + 1 + 1) (some ⟨w.heap.size + 1, 0, none⟩) 1 1 (bvs [UInt8.ofNat 3]) rfl ?_ HOB (hid rfl) (hid (bvs_oneM _)) (hid (le_maxLen (by omega))) (hid (by omega)) (hid (by simp; omega)); intro v3 w3 hown3 hb3 hg3; have HO3 : Hid (w3.ownsRow D 5 1 v3 (bs ++ [UInt8.ofNat 3]).length (bvs (bs ++ [UInt8.ofNat 3]))) := hid (by rw [List.length_append, bvs_app]; exact hown3); have R3 := hid ((R1.out.alloc (.cells #[.int .u8 3] 5)).grownV hg3.out HNE.out); have HB3 := hid ((HB0.out.alloc (by simp; omega) (.cells #[.int .u8 3] 5)).trans hb3); have b0 : w3.cell? ⟨w.heap.size, 0, none⟩ = some (.int .i64 3) := (by rw [R3.out.cell]; show some (Value.int .i64 x.kind) = _; rw [HK.out]); clear hown3 hb3 hg3))
  go_ret
  refine ⟨_, rfl, ?_, HB3.out⟩
  rw [HIB.out, List.append_nil]
  exact HO3.out
set_option maxHeartbeats 4000000 in
theorem layItem_1 (v : Value) (bs : List UInt8) (x : It) (D : Nat) (w : World) (hown : w.ownsRow D 5 1 v bs.length (bvs bs)) (hD : D ≤ w.heap.size) (hx : x.fits) (hr : itemR x) (hfd : ∀ W, Below D w W → Fd W) (hbs : bs.length ≤ 90000) (hk : x.kind = 1) :
    Calls Tryz.prog 42 #[v, .agg x.cells] w (LY w D (bs ++ itemB x)) := by
  obtain ⟨i0, hi, hz0, hz1, hz2⟩ := info_parts u8info
  have HZE := hid esize
  have HZS := hid stsizeM
  have HDD := hid hD
  have HK := hid hk
  have HIB : Hid (itemB x = [UInt8.ofNat 1] ++ textE x.entry) := hid (by unfold itemB; rw [hk]; rfl)
  have HO0 := hid (own_allocM hown (.cells x.cells 62))
  have HB0 : Hid (Below D w (w.alloc (.cells x.cells 62))) := hid ((Below.refl _ _).alloc hD _)
  have R1 : Hid (Row (w.alloc (.cells x.cells 62)) w.heap.size 62 x.cells.toList) := hid (Row.new _ _ _)
  have a0 : (w.alloc (.cells x.cells 62)).cell? ⟨w.heap.size, 0, none⟩ = some (.int .i64 1) := by rw [R1.out.cell]; show some (Value.int .i64 x.kind) = _; rw [hk]
  have HNE : Hid (some w.heap.size ≠ v.ownBlock) := hid (fun e => by have := (hown.lt _ e.symm).2; omega)
  have HOB : Hid (Rd ((w.alloc (.cells x.cells 62)).alloc (.cells #[.int .u8 1] 5)) (w.heap.size + 1 + 1) (some ⟨w.heap.size + 1, 0, none⟩) (bvs [UInt8.ofNat 1])) := hid (by have := one_byte (w.alloc (.cells x.cells 62)) 1 (by omega); simpa using this)
  have HR : Hid (Rt x.entry) := hid (by unfold itemR at hr; rw [if_pos hk] at hr; exact hr.1)
  have HLE : Hid (∀ (u : Value) (cs : List UInt8) (W : World), W.ownsRow D 5 1 u cs.length (bvs cs) → Below D w W → cs.length ≤ 100000 → Calls Tryz.prog 41 #[u, .agg x.entry.cells] W (LY W D (cs ++ textE x.entry))) := hid fun u cs W hu hW hc =>
    layEntry_any u cs x.entry D W hu (Nat.le_trans hD hW.size) hx.2.2 HR.out (hfd W hW) hc
  clear hown hk hr hx hfd
  go_enter Tryz.func42, Tryz.ntmps42
  go_wp2_with (first
    | (refine wpl_append rfl (.tmp 6) (.tmp 10) 47 rfl D 5 i0 _ 1 1 Tryz.underlying47 hi hz0 hz1 hz2 rfl (by omega) v bs.length _ rfl (own_allocM HO0.out _) (w.heap.size + 1 + 1) (some ⟨w.heap.size + 1, 0, none⟩) 1 1 (bvs [UInt8.ofNat 1]) rfl ?_ HOB (hid rfl) (hid (bvs_oneM _)) (hid (le_maxLen (by omega))) (hid (by omega)) (hid (by simp; omega)); intro v3 w3 hown3 hb3 hg3; have HO3 : Hid (w3.ownsRow D 5 1 v3 (bs ++ [UInt8.ofNat 1]).length (bvs (bs ++ [UInt8.ofNat 1]))) := hid (by rw [List.length_append, bvs_app]; exact hown3); have R3 := hid ((R1.out.alloc (.cells #[.int .u8 1] 5)).grownV hg3.out HNE.out); have HB3 := hid ((HB0.out.alloc (by simp; omega) (.cells #[.int .u8 1] 5)).trans hb3); have b0 : w3.cell? ⟨w.heap.size, 0, none⟩ = some (.int .i64 1) := (by rw [R3.out.cell]; show some (Value.int .i64 x.kind) = _; rw [HK.out]); clear hown3 hb3 hg3)
    | ((with_reducible show wpList _ _ _ ({ dst := some 18, op := _, type := _, pos := _, after := _, guard := _ } :: _) _ _); refine wpl_load_midw rfl 28 (.tmp 17) rfl w.heap.size 6 rfl (Array.toList x.entry.cells) _ (it_entry R3.out) Tryz.underlying28 rfl (by exact HZE.out) ?_)
    | (go_at_call 41; refine (HLE.out _ _ _ HO3.out HB3.out (by simp; omega)).mono ?_; rintro e w4 ⟨v4, rfl, hown4, hb4⟩))
  go_ret
  refine ⟨_, rfl, ?_, HB3.out.trans hb4⟩
  rw [HIB.out, ← List.append_assoc]
  exact hown4
set_option maxHeartbeats 4000000 in
theorem layItem_2 (v : Value) (bs : List UInt8) (x : It) (D : Nat) (w : World) (hown : w.ownsRow D 5 1 v bs.length (bvs bs)) (hD : D ≤ w.heap.size) (hx : x.fits) (hr : itemR x) (_hfd : ∀ W, Below D w W → Fd W) (hbs : bs.length ≤ 90000) (hk : x.kind = 2) :
    Calls Tryz.prog 42 #[v, .agg x.cells] w (LY w D (bs ++ itemB x)) := by
  obtain ⟨i0, hi, hz0, hz1, hz2⟩ := info_parts u8info
  have HZE := hid esize
  have HZS := hid stsizeM
  have HDD := hid hD
  have HK := hid hk
  have HIB : Hid (itemB x = [UInt8.ofNat 2] ++ nb [un x.stub.opn, un x.stub.view, un x.stub.under, x.stub.parent, x.stub.sum]) := hid (by unfold itemB bytesS; unfold itemR at hr; rw [hk] at hr ⊢; rw [if_neg (by decide), if_pos rfl] at hr; rw [if_neg (by decide), if_pos rfl, if_pos hr.1]; rfl)
  have HO0 := hid (own_allocM hown (.cells x.cells 62))
  have HB0 : Hid (Below D w (w.alloc (.cells x.cells 62))) := hid ((Below.refl _ _).alloc hD _)
  have R1 : Hid (Row (w.alloc (.cells x.cells 62)) w.heap.size 62 x.cells.toList) := hid (Row.new _ _ _)
  have a0 : (w.alloc (.cells x.cells 62)).cell? ⟨w.heap.size, 0, none⟩ = some (.int .i64 2) := by rw [R1.out.cell]; show some (Value.int .i64 x.kind) = _; rw [hk]
  have HNE : Hid (some w.heap.size ≠ v.ownBlock) := hid (fun e => by have := (hown.lt _ e.symm).2; omega)
  have HOB : Hid (Rd ((w.alloc (.cells x.cells 62)).alloc (.cells #[.int .u8 2] 5)) (w.heap.size + 1 + 1) (some ⟨w.heap.size + 1, 0, none⟩) (bvs [UInt8.ofNat 2])) := hid (by have := one_byte (w.alloc (.cells x.cells 62)) 2 (by omega); simpa using this)
  have HLN : Hid (∀ (u : Value) (cs : List UInt8) (W : World) (g : Nat), g = W.heap.size → W.ownsRow D 5 1 u cs.length (bvs cs) → Below D w W → cs.length ≤ 100000 → Calls Tryz.prog 40 #[u, .slice (some ⟨g, 0, none⟩) 5 5] (W.alloc (.cells #[.int .u64 ((un x.stub.opn : Nat) : Int), .int .u64 ((un x.stub.view : Nat) : Int), .int .u64 ((un x.stub.under : Nat) : Int), .int .u64 ((x.stub.parent : Nat) : Int), .int .u64 ((x.stub.sum : Nat) : Int)] 23)) (LY W D (cs ++ nb [un x.stub.opn, un x.stub.view, un x.stub.under, x.stub.parent, x.stub.sum]))) := hid fun u cs W g hg hu hW hc =>
    layN_new u cs [un x.stub.opn, un x.stub.view, un x.stub.under, x.stub.parent, x.stub.sum] _ 5 D W g hg hu (Nat.le_trans hD hW.size) rfl rfl (by simp) (snums_lt x.stub hx.2.1) (by simp) hc
  have u0 := un_wrap x.stub.opn
  have u1 := un_wrap x.stub.view
  have u2 := un_wrap x.stub.under
  clear hown hk hr hx _hfd
  go_enter Tryz.func42, Tryz.ntmps42
  go_wp2_with (first
    | (refine wpl_append rfl (.tmp 6) (.tmp 10) 47 rfl D 5 i0 _ 1 1 Tryz.underlying47 hi hz0 hz1 hz2 rfl (by omega) v bs.length _ rfl (own_allocM HO0.out _) (w.heap.size + 1 + 1) (some ⟨w.heap.size + 1, 0, none⟩) 1 1 (bvs [UInt8.ofNat 2]) rfl ?_ HOB (hid rfl) (hid (bvs_oneM _)) (hid (le_maxLen (by omega))) (hid (by omega)) (hid (by simp; omega)); intro v3 w3 hown3 hb3 hg3; have HO3 : Hid (w3.ownsRow D 5 1 v3 (bs ++ [UInt8.ofNat 2]).length (bvs (bs ++ [UInt8.ofNat 2]))) := hid (by rw [List.length_append, bvs_app]; exact hown3); have R3 := hid ((R1.out.alloc (.cells #[.int .u8 2] 5)).grownV hg3.out HNE.out); have HB3 := hid ((HB0.out.alloc (by simp; omega) (.cells #[.int .u8 2] 5)).trans hb3); have b0 : w3.cell? ⟨w.heap.size, 0, none⟩ = some (.int .i64 2) := (by rw [R3.out.cell]; show some (Value.int .i64 x.kind) = _; rw [HK.out]); clear hown3 hb3 hg3)
    | ((with_reducible show wpList _ _ _ ({ dst := some 23, op := _, type := _, pos := _, after := _, guard := _ } :: _) _ _); refine wpl_load_midw rfl 60 (.tmp 22) rfl w.heap.size 1 rfl (Array.toList x.stub.cells) _ (it_stub R3.out) Tryz.underlying60 rfl (by exact HZS.out) ?_)
    | ((with_reducible show wpList _ _ _ ({ dst := none, op := .store _ (.tmp 5) _, type := _, pos := _, after := _, guard := _ } :: _) _ _); refine wpl_store_st rfl (.tmp 5) (.tmp 23) rfl HZS.out w3.heap.size #[.int .i64 0, .int .i64 0, .int .i64 0, .int .u64 0, .int .u64 0] x.stub.cells rfl rfl (Row.new _ _ _) ?_ (hid rfl) (hid rfl) (hid (by simp [St.cells, Value.oneCell'])); intro w4 hr4 hg4; have hb4 : Below w3.heap.size w3 w4 := ((Below.refl _ _).alloc (Nat.le_refl _) (.cells #[.int .i64 0, .int .i64 0, .int .i64 0, .int .u64 0, .int .u64 0] 60)).trans (below_grown hg4 (Nat.le_refl _) (by simp)); have HO4 := hid (own_belowM HO3.out hb4); have HB4 := hid (HB3.out.trans (hb4.mono (Nat.le_trans HDD.out HB3.out.size))); have s0 : w4.cell? ⟨w3.heap.size, 0, none⟩ = some (.int .i64 x.stub.opn) := hr4.cell 0; have s1 : w4.cell? ⟨w3.heap.size, 1, none⟩ = some (.int .i64 x.stub.view) := hr4.cell 1; have s2 : w4.cell? ⟨w3.heap.size, 2, none⟩ = some (.int .i64 x.stub.under) := hr4.cell 2; have s3 : w4.cell? ⟨w3.heap.size, 3, none⟩ = some (.int .u64 (x.stub.parent : Int)) := hr4.cell 3; have s4 : w4.cell? ⟨w3.heap.size, 4, none⟩ = some (.int .u64 (x.stub.sum : Int)) := hr4.cell 4; clear hb4 hr4 hg4)
    | (go_at_call 40; refine (HLN.out _ _ _ _ (by simp) HO4.out HB4.out (by simp; omega)).mono ?_; rintro e w5 ⟨v5, rfl, hown5, hb5⟩))
  go_ret
  refine ⟨_, rfl, ?_, HB4.out.trans hb5⟩
  rw [HIB.out, ← List.append_assoc]
  exact hown5
theorem layItem_any (v : Value) (bs : List UInt8) (x : It) (D : Nat) (w : World) (hown : w.ownsRow D 5 1 v bs.length (bvs bs)) (hD : D ≤ w.heap.size) (hx : x.fits) (hr : itemR x) (hfd : ∀ W, Below D w W → Fd W) (hbs : bs.length ≤ 90000) :
    Calls Tryz.prog 42 #[v, x.val] w (LY w D (bs ++ itemB x)) := by
  rcases item_kinds hr with hk | hk | hk | hk
  · exact layItem_0 v bs x D w hown hD hx hr hfd hbs hk
  · exact layItem_1 v bs x D w hown hD hx hr hfd hbs hk
  · exact layItem_2 v bs x D w hown hD hx hr hfd hbs hk
  · exact layItem_3 v bs x D w hown hD hx hr hfd hbs hk
end Go.Proofs.YtcildaeiogdfdaaGreatDoor
/-
  The program's lay.
-/
namespace Go.Proofs.YtcildaeiogdfdaaGreatDoor
open Go.RowKit
set_option maxRecDepth 10000

set_option maxHeartbeats 4000000 in
theorem lay_67 (m : Ms) (p : Pl) (v : Value) (bs : List UInt8) (D : Nat) (w : World) (hown : w.ownsRow D 5 1 v bs.length (bvs bs)) (hD : D ≤ w.heap.size) (hbs : bs.length ≤ 4000) (hc : m.check.fits) :
    Calls Tryz.prog 19 #[v, .agg (m.cells p), .int .i32 67] w (LY w D (bs ++ layP m 67)) := by
  have HDD := hid hD
  have HO0 := hid (own_allocM hown (.cells (m.cells p) 32))
  have HB0 : Hid (Below D w (w.alloc (.cells (m.cells p) 32))) := hid ((Below.refl _ _).alloc hD _)
  have R1 : Hid (Row (w.alloc (.cells (m.cells p) 32)) w.heap.size 32 (m.cells p).toList) := hid (Row.new _ _ _)
  have HNE : Hid (some w.heap.size ≠ v.ownBlock) := hid (fun e => by have := (hown.lt _ e.symm).2; omega)
  have a12 : (w.alloc (.cells (m.cells p) 32)).cell? ⟨w.heap.size, 12, none⟩ = some (.int .i64 m.check.opn) := R1.out.cell 12
  have a13 : (w.alloc (.cells (m.cells p) 32)).cell? ⟨w.heap.size, 13, none⟩ = some (.int .i64 m.check.view) := R1.out.cell 13
  have a14 : (w.alloc (.cells (m.cells p) 32)).cell? ⟨w.heap.size, 14, none⟩ = some (.int .u64 (m.check.sum : Int)) := R1.out.cell 14
  have HLN : Hid (∀ (u : Value) (cs : List UInt8) (W : World) (g : Nat), g = W.heap.size → W.ownsRow D 5 1 u cs.length (bvs cs) → Below D w W → cs.length ≤ 100000 → Calls Tryz.prog 40 #[u, .slice (some ⟨g, 0, none⟩) 3 3] (W.alloc (.cells #[.int .u64 ((un m.check.opn : Nat) : Int), .int .u64 ((un m.check.view : Nat) : Int), .int .u64 ((m.check.sum : Nat) : Int)] 23)) (LY W D (cs ++ nb [un m.check.opn, un m.check.view, m.check.sum]))) := hid fun u cs W g hg hu hW hc2 =>
    layN_new u cs [un m.check.opn, un m.check.view, m.check.sum] _ 3 D W g hg hu (Nat.le_trans hD hW.size) rfl rfl (by simp) (chk_lt m.check hc) (by simp) hc2
  have u0 := un_wrap m.check.opn
  have u1 := un_wrap m.check.view
  clear hown
  go_enter Tryz.func19, Tryz.ntmps19
  go_wp2_with (go_at_call 40; refine (HLN.out _ _ _ _ (by simp) HO0.out HB0.out (by omega)).mono ?_; rintro e w5 ⟨v5, rfl, hown5, hb5⟩)
  go_ret
  refine ⟨_, rfl, ?_, HB0.out.trans hb5⟩
  show World.ownsRow _ _ _ _ _ (bs ++ chkB m.check).length (bvs (bs ++ chkB m.check))
  rw [chkB_nb]
  exact hown5
set_option maxHeartbeats 4000000 in
theorem lay_83 (m : Ms) (p : Pl) (v : Value) (bs : List UInt8) (D : Nat) (w : World) (hown : w.ownsRow D 5 1 v bs.length (bvs bs)) (hD : D ≤ w.heap.size) (hbs : bs.length ≤ 4000) (hs : m.sums.length = 6) (h64 : ∀ n ∈ m.sums, U64 n) :
    Calls Tryz.prog 19 #[v, .agg (m.cells p), .int .i32 83] w (LY w D (bs ++ layP m 83)) := by
  have HDD := hid hD
  have HO0 := hid (own_allocM hown (.cells (m.cells p) 32))
  have HB0 : Hid (Below D w (w.alloc (.cells (m.cells p) 32))) := hid ((Below.refl _ _).alloc hD _)
  have R1 : Hid (Row (w.alloc (.cells (m.cells p) 32)) w.heap.size 32 (m.cells p).toList) := hid (Row.new _ _ _)
  have HNE : Hid (some w.heap.size ≠ v.ownBlock) := hid (fun e => by have := (hown.lt _ e.symm).2; omega)
  have HLN : Hid (Calls Tryz.prog 40 #[v, .slice (some ⟨w.heap.size, 15, none⟩) 6 6] (w.alloc (.cells (m.cells p) 32)) (LY (w.alloc (.cells (m.cells p) 32)) D (bs ++ nb m.sums))) := hid (by
    have h := layNumbers_any v bs w.heap.size 15 6 D m.sums _ HO0.out (fun e => HNE.out e.symm) (by simp; omega) (fun j hj => sums_cell R1.out hs j (by omega)) (by omega) h64 (by omega) (by omega) (by omega)
    rwa [hs] at h)
  clear hown
  go_enter Tryz.func19, Tryz.ntmps19
  go_wp2_with (go_at_call 40; refine HLN.out.mono ?_; rintro e w5 ⟨v5, rfl, hown5, hb5⟩)
  go_ret
  exact ⟨_, rfl, hown5, HB0.out.trans hb5⟩
set_option maxHeartbeats 4000000 in
theorem lay_69 (m : Ms) (p : Pl) (v : Value) (bs : List UInt8) (D : Nat) (w : World) (hown : w.ownsRow D 5 1 v bs.length (bvs bs)) (hD : D ≤ w.heap.size) (hbs : bs.length ≤ 4000) (he : m.entry.fits) (hr : Rt m.entry) (hfd : ∀ W, Below D w W → Fd W) :
    Calls Tryz.prog 19 #[v, .agg (m.cells p), .int .i32 69] w (LY w D (bs ++ layP m 69)) := by
  have HDD := hid hD
  have HO0 := hid (own_allocM hown (.cells (m.cells p) 32))
  have HB0 : Hid (Below D w (w.alloc (.cells (m.cells p) 32))) := hid ((Below.refl _ _).alloc hD _)
  have R1 : Hid (Row (w.alloc (.cells (m.cells p) 32)) w.heap.size 32 (m.cells p).toList) := hid (Row.new _ _ _)
  have HNE : Hid (some w.heap.size ≠ v.ownBlock) := hid (fun e => by have := (hown.lt _ e.symm).2; omega)
  have HZE := hid esize
  have HLE : Hid (Calls Tryz.prog 41 #[v, .agg m.entry.cells] (w.alloc (.cells (m.cells p) 32)) (LY (w.alloc (.cells (m.cells p) 32)) D (bs ++ textE m.entry))) := hid
    (layEntry_any v bs m.entry D _ HO0.out (by simp; omega) he hr (hfd _ HB0.out) (by omega))
  clear hown
  go_enter Tryz.func19, Tryz.ntmps19
  go_wp2_with (first
    | ((with_reducible show wpList _ _ _ ({ dst := some 38, op := _, type := _, pos := _, after := _, guard := _ } :: _) _ _); refine wpl_load_midw rfl 28 (.tmp 37) rfl w.heap.size 21 rfl (Array.toList m.entry.cells) _ (ms_entry R1.out) Tryz.underlying28 rfl (by exact HZE.out) ?_)
    | (go_at_call 41; refine HLE.out.mono ?_; rintro e w5 ⟨v5, rfl, hown5, hb5⟩))
  go_ret
  exact ⟨_, rfl, hown5, HB0.out.trans hb5⟩
set_option maxHeartbeats 4000000 in
theorem lay_66 (m : Ms) (p : Pl) (v : Value) (bs : List UInt8) (D : Nat) (w : World) (hown : w.ownsRow D 5 1 v bs.length (bvs bs)) (hD : D ≤ w.heap.size) (hbs : bs.length ≤ 4000) (hb : m.body.size ≤ 1000) :
    Calls Tryz.prog 19 #[v, .agg (m.cells p), .int .i32 66] w (LY w D (bs ++ layP m 66)) := by
  have HDD := hid hD
  have HO0 := hid (own_allocM hown (.cells (m.cells p) 32))
  have HB0 : Hid (Below D w (w.alloc (.cells (m.cells p) 32))) := hid ((Below.refl _ _).alloc hD _)
  have R1 : Hid (Row (w.alloc (.cells (m.cells p) 32)) w.heap.size 32 (m.cells p).toList) := hid (Row.new _ _ _)
  have HNE : Hid (some w.heap.size ≠ v.ownBlock) := hid (fun e => by have := (hown.lt _ e.symm).2; omega)
  have a32 : (w.alloc (.cells (m.cells p) 32)).cell? ⟨w.heap.size, 32, none⟩ = some (.string m.body) := R1.out.cell 32
  obtain ⟨i0, hi, hz0, hz1, hz2⟩ := info_parts u8info
  clear hown
  go_enter Tryz.func19, Tryz.ntmps19
  go_wp2_with (refine wpl_append_str rfl (.tmp 75) (.tmp 77) 47 9 rfl D 5 i0 Tryz.underlying47 Tryz.underlying9 hi hz0 hz1 hz2 v bs.length _ rfl HO0.out m.body rfl ?_ (hid (le_maxLen (by omega))) (hid (by omega)) (hid (by simp; omega)); intro v3 w3 hown3 hb3 hg3)
  go_ret
  refine ⟨_, rfl, ?_, HB0.out.trans hb3⟩
  show World.ownsRow _ _ _ _ _ (bs ++ sb m.body).length (bvs (bs ++ sb m.body))
  rw [List.length_append, sb_len, bvs_app]
  exact hown3
set_option maxHeartbeats 4000000 in
theorem lay_76 (m : Ms) (p : Pl) (v : Value) (bs : List UInt8) (D : Nat) (w : World) (hown : w.ownsRow D 5 1 v bs.length (bvs bs)) (hD : D ≤ w.heap.size) (hbs : bs.length ≤ 4000) (B : Nat) (hm : PlOk w B m p) (hBD : B ≤ D) (hes : ∀ e ∈ m.es, e.fits) (hy : mayE m.es) (hfd : ∀ W, Below D w W → Fd W) :
    Calls Tryz.prog 19 #[v, .agg (m.cells p), .int .i32 76] w (LY w D (bs ++ layP m 76)) := by
  have HDD := hid hD
  have HO0 := hid (own_allocM hown (.cells (m.cells p) 32))
  have HB0 : Hid (Below D w (w.alloc (.cells (m.cells p) 32))) := hid ((Below.refl _ _).alloc hD _)
  have R1 : Hid (Row (w.alloc (.cells (m.cells p) 32)) w.heap.size 32 (m.cells p).toList) := hid (Row.new _ _ _)
  have HNE : Hid (some w.heap.size ≠ v.ownBlock) := hid (fun e => by have := (hown.lt _ e.symm).2; omega)
  have a30 : (w.alloc (.cells (m.cells p) 32)).cell? ⟨w.heap.size, 30, none⟩ = some (.slice p.A m.es.length p.cA) := R1.out.cell 30
  obtain ⟨i0, hi, hz0, hz1, hz2⟩ := info_parts u8info
  have HZE := hid esize
  have HEA : Hid (∀ W, Below D w W → Rd W B p.A (rws (fun x : En => x.cells.toList) m.es)) := hid fun W hW => hm.a.below hW hBD
  have hca := hm.ca
  have h8 := hy.1
  have hw8 : IntKind.wrap .u8 (m.es.length : Int) = (m.es.length : Int) := by
    show (m.es.length : Int) % 256 = _
    omega
  have HML : Hid (∀ e ∈ m.es, (textE e).length ≤ 330) := hid fun e he => by have := textE_len (hes e he) (hy.2 e he); omega
  have HLE : Hid (∀ e ∈ m.es, ∀ (u : Value) (cs : List UInt8) (W : World), W.ownsRow D 5 1 u cs.length (bvs cs) → Below D w W → cs.length ≤ 100000 → Calls Tryz.prog 41 #[u, .agg e.cells] W (LY W D (cs ++ textE e))) := hid fun e he u cs W hu hW hc =>
    layEntry_any u cs e D W hu (Nat.le_trans hD hW.size) (hes e he) (hy.2 e he) (hfd W hW) hc
  have HOB : Hid (Rd ((w.alloc (.cells (m.cells p) 32)).alloc (.cells #[.int .u8 (m.es.length : Int)] 5)) (w.heap.size + 1 + 1) (some ⟨w.heap.size + 1, 0, none⟩) (bvs [UInt8.ofNat m.es.length])) := hid (by have := one_byte (w.alloc (.cells (m.cells p) 32)) m.es.length (by omega); simpa using this)
  clear hm hy hes hfd
  clear hown
  go_enter Tryz.func19, Tryz.ntmps19
  go_wp2_with (refine wpl_append rfl (.tmp 42) (.tmp 47) 47 rfl D 5 i0 _ 1 1 Tryz.underlying47 hi hz0 hz1 hz2 rfl (by omega) v bs.length _ rfl (own_allocM HO0.out _) (w.heap.size + 1 + 1) (some ⟨w.heap.size + 1, 0, none⟩) 1 1 (bvs [UInt8.ofNat m.es.length]) rfl ?_ HOB (hid rfl) (hid (bvs_oneM _)) (hid (le_maxLen (by omega))) (hid (by omega)) (hid (by simp; omega)); intro v3 w3 hown3 hb3 hg3; have HO3 : Hid (w3.ownsRow D 5 1 v3 (bs ++ [UInt8.ofNat m.es.length]).length (bvs (bs ++ [UInt8.ofNat m.es.length]))) := hid (by rw [List.length_append, bvs_app]; exact hown3); have R3 := hid ((R1.out.alloc (.cells #[.int .u8 (m.es.length : Int)] 5)).grownV hg3.out HNE.out); have HB3 := hid ((HB0.out.alloc (by simp; omega) (.cells #[.int .u8 (m.es.length : Int)] 5)).trans hb3); have b30 : w3.cell? ⟨w.heap.size, 30, none⟩ = some (.slice p.A m.es.length p.cA) := R3.out.cell 30; clear hown3 hb3 hg3 HOB hw8)
  clear a30 R1 HB0 HO0 R3 b30
  generalize p.A = PA at *
  go_loopw [0, 52] (fun b i wr => ∃ k : Nat, k ≤ m.es.length ∧ i = .int .i64 (k : Int) ∧ Hid (wr.ownsRow D 5 1 b ((bs ++ [UInt8.ofNat m.es.length]) ++ (m.es.take k).flatMap textE).length (bvs ((bs ++ [UInt8.ofNat m.es.length]) ++ (m.es.take k).flatMap textE))) ∧ Hid (Below D w wr)) (fun _ i _ => m.es.length - (intOf i).toNat)
  case atStart => exact ⟨0, by omega, rfl, hid (by simpa using HO3.out), HB3⟩
  case round =>
    obtain ⟨k, hk, rfl, HO, HB⟩ := hrel
    by_cases hlt : k < m.es.length
    · obtain ⟨g, o, hA, hg, hrg⟩ := rws_at (n := 9) (fun _ => rfl) (HEA.out _ HB.out) k hlt (by omega)
      subst hA
      have hi : (k : Int) < (m.es.length : Int) := by omega
      have hi0 : (0 : Int) ≤ (k : Int) := by omega
      have HRG := hid hrg
      have HLB : Hid (((bs ++ [UInt8.ofNat m.es.length]) ++ (m.es.take k).flatMap textE).length ≤ 8000) := hid (by rw [List.length_append]; have := flat_take_le textE 330 m.es HML.out k; (try simp only [List.length_append, List.length_cons, List.length_nil]); omega)
      have HEK := hid (HLE.out _ (List.getElem_mem hlt))
      have HNX : Hid ((m.es.take (k + 1)).flatMap textE = (m.es.take k).flatMap textE ++ textE m.es[k]) := hid (by
        rw [List.take_succ_eq_append_getElem hlt, List.flatMap_append]; simp)
      generalize m.es[k] = X at *
      clear hg hrg hlt
      go_wp2_with (first
        | ((with_reducible show wpList _ _ _ ({ dst := some 55, op := _, type := _, pos := _, after := _, guard := _ } :: _) _ _); refine wpl_load_midw rfl 28 (.tmp 54) rfl g (o + k * 9) rfl (Array.toList X.cells) _ HRG.out Tryz.underlying28 rfl (by exact HZE.out) ?_)
        | ((with_reducible show wpList _ _ _ ({ dst := none, op := .store _ (.tmp 8) _, type := _, pos := _, after := _, guard := _ } :: _) _ _); refine wpl_store_st rfl (.tmp 8) (.tmp 55) rfl HZE.out wr.heap.size #[.int .i64 0, .int .i64 0, .int .i64 0, .int .u64 0, .int .i64 0, .int .i64 0, .int .i64 0, .int .i64 0, .string ⟨#[]⟩] X.cells rfl rfl (Row.new _ _ _) ?_ (hid rfl) (hid rfl) (hid (ecells_one X)); intro w3 hr3 hg3; have RX := hid hr3; have hb3 : Below wr.heap.size wr w3 := ((Below.refl _ _).alloc (Nat.le_refl _) (.cells #[.int .i64 0, .int .i64 0, .int .i64 0, .int .u64 0, .int .i64 0, .int .i64 0, .int .i64 0, .int .i64 0, .string ⟨#[]⟩] 28)).trans (below_grown hg3 (Nat.le_refl _) (by simp)); have HO3 := hid (own_belowM HO.out hb3); have HB3 := hid (HB.out.trans (hb3.mono (Nat.le_trans HDD.out HB.out.size))); clear hr3 hg3 hb3)
        | ((with_reducible show wpList _ _ _ ({ dst := some 57, op := _, type := _, pos := _, after := _, guard := _ } :: _) _ _); refine wpList_load_row rfl 28 (.tmp 8) rfl wr.heap.size rfl 28 X.cells (0, 0) _ (Row.arr RX.out) Tryz.underlying28 rfl HZE.out ?_)
        | (go_at_call 41; refine (HEK.out _ _ _ HO3.out HB3.out (by have := HLB.out; omega)).mono ?_; rintro e w4 ⟨v4, rfl, hown4, hb4⟩))
      go_roundw
      case rel => exact ⟨k + 1, by omega, by go_num, hid (by rw [HNX.out, ← List.append_assoc]; exact hown4), hid (HB3.out.trans hb4)⟩
      case measure => simp [intOf]; omega
    · obtain rfl : k = m.es.length := by omega
      have h := HO.out
      rw [List.take_length] at h
      clear HO
      have HO := hid h
      clear h
      go_wp2_with fail
      go_ret
      refine ⟨_, rfl, ?_, HB.out⟩
      have h := HO.out
      show World.ownsRow _ _ _ _ _ (bs ++ layP m 76).length (bvs (bs ++ layP m 76))
      have e : bs ++ layP m 76 = (bs ++ [UInt8.ofNat m.es.length]) ++ m.es.flatMap textE := by first | rfl | (unfold layP; simp)
      rw [e]
      exact h
set_option maxHeartbeats 4000000 in
theorem lay_73 (m : Ms) (p : Pl) (v : Value) (bs : List UInt8) (D : Nat) (w : World) (hown : w.ownsRow D 5 1 v bs.length (bvs bs)) (hD : D ≤ w.heap.size) (hbs : bs.length ≤ 4000) (B : Nat) (hm : PlOk w B m p) (hBD : B ≤ D) (hxs : ∀ e ∈ m.xs, e.fits) (hy : mayX m.xs) (hfd : ∀ W, Below D w W → Fd W) :
    Calls Tryz.prog 19 #[v, .agg (m.cells p), .int .i32 73] w (LY w D (bs ++ layP m 73)) := by
  have HDD := hid hD
  have HO0 := hid (own_allocM hown (.cells (m.cells p) 32))
  have HB0 : Hid (Below D w (w.alloc (.cells (m.cells p) 32))) := hid ((Below.refl _ _).alloc hD _)
  have R1 : Hid (Row (w.alloc (.cells (m.cells p) 32)) w.heap.size 32 (m.cells p).toList) := hid (Row.new _ _ _)
  have HNE : Hid (some w.heap.size ≠ v.ownBlock) := hid (fun e => by have := (hown.lt _ e.symm).2; omega)
  have a31 : (w.alloc (.cells (m.cells p) 32)).cell? ⟨w.heap.size, 31, none⟩ = some (.slice p.B m.xs.length p.cB) := R1.out.cell 31
  have HZE := hid isize
  have HEA : Hid (∀ W, Below D w W → Rd W B p.B (rws (fun x : It => x.cells.toList) m.xs)) := hid fun W hW => hm.b.below hW hBD
  have hca := hm.cb
  have h8 := hy.1
  have HML : Hid (∀ e ∈ m.xs, (itemB e).length ≤ 331) := hid fun e he => (itemB_len (hxs e he) (hy.2 e he)).2
  have HLE : Hid (∀ e ∈ m.xs, ∀ (u : Value) (cs : List UInt8) (W : World), W.ownsRow D 5 1 u cs.length (bvs cs) → Below D w W → cs.length ≤ 90000 → Calls Tryz.prog 42 #[u, .agg e.cells] W (LY W D (cs ++ itemB e))) := hid fun e he u cs W hu hW hc =>
    layItem_any u cs e D W hu (Nat.le_trans hD hW.size) (hxs e he) (hy.2 e he) (fun W2 h2 => hfd W2 (hW.trans h2)) hc
  clear hm hy hxs hfd
  clear hown
  go_enter Tryz.func19, Tryz.ntmps19
  go_wp2_with fail
  clear a31 R1
  generalize p.B = PA at *
  go_loopw [0, 65] (fun b i wr => ∃ k : Nat, k ≤ m.xs.length ∧ i = .int .i64 (k : Int) ∧ Hid (wr.ownsRow D 5 1 b (bs ++ (m.xs.take k).flatMap itemB).length (bvs (bs ++ (m.xs.take k).flatMap itemB))) ∧ Hid (Below D w wr)) (fun _ i _ => m.xs.length - (intOf i).toNat)
  case atStart => exact ⟨0, by omega, rfl, hid (by simpa using HO0.out), HB0⟩
  case round =>
    obtain ⟨k, hk, rfl, HO, HB⟩ := hrel
    by_cases hlt : k < m.xs.length
    · obtain ⟨g, o, hA, hg, hrg⟩ := rws_at (n := 15) (fun _ => rfl) (HEA.out _ HB.out) k hlt (by omega)
      subst hA
      have hi : (k : Int) < (m.xs.length : Int) := by omega
      have hi0 : (0 : Int) ≤ (k : Int) := by omega
      have HRG := hid hrg
      have HLB : Hid ((bs ++ (m.xs.take k).flatMap itemB).length ≤ 8000) := hid (by rw [List.length_append]; have := flat_take_le itemB 331 m.xs HML.out k; (try simp only [List.length_append, List.length_cons, List.length_nil]); omega)
      have HEK := hid (HLE.out _ (List.getElem_mem hlt))
      have HNX : Hid ((m.xs.take (k + 1)).flatMap itemB = (m.xs.take k).flatMap itemB ++ itemB m.xs[k]) := hid (by
        rw [List.take_succ_eq_append_getElem hlt, List.flatMap_append]; simp)
      generalize m.xs[k] = X at *
      clear hg hrg hlt
      go_wp2_with (first
        | ((with_reducible show wpList _ _ _ ({ dst := some 68, op := _, type := _, pos := _, after := _, guard := _ } :: _) _ _); refine wpl_load_midw rfl 62 (.tmp 67) rfl g (o + k * 15) rfl (Array.toList X.cells) _ HRG.out Tryz.underlying62 rfl (by exact HZE.out) ?_)
        | ((with_reducible show wpList _ _ _ ({ dst := none, op := .store _ (.tmp 10) _, type := _, pos := _, after := _, guard := _ } :: _) _ _); refine wpl_store_st rfl (.tmp 10) (.tmp 68) rfl HZE.out wr.heap.size #[.int .i64 0, .int .i64 0, .int .i64 0, .int .i64 0, .int .u64 0, .int .u64 0, .int .i64 0, .int .i64 0, .int .i64 0, .int .u64 0, .int .i64 0, .int .i64 0, .int .i64 0, .int .i64 0, .string ⟨#[]⟩] X.cells rfl rfl (Row.new _ _ _) ?_ (hid rfl) (hid rfl) (hid (by simp [It.cells, Value.oneCell'])); intro w3 hr3 hg3; have RX := hid hr3; have hb3 : Below wr.heap.size wr w3 := ((Below.refl _ _).alloc (Nat.le_refl _) (.cells #[.int .i64 0, .int .i64 0, .int .i64 0, .int .i64 0, .int .u64 0, .int .u64 0, .int .i64 0, .int .i64 0, .int .i64 0, .int .u64 0, .int .i64 0, .int .i64 0, .int .i64 0, .int .i64 0, .string ⟨#[]⟩] 62)).trans (below_grown hg3 (Nat.le_refl _) (by simp)); have HO3 := hid (own_belowM HO.out hb3); have HB3 := hid (HB.out.trans (hb3.mono (Nat.le_trans HDD.out HB.out.size))); clear hr3 hg3 hb3)
        | ((with_reducible show wpList _ _ _ ({ dst := some 70, op := _, type := _, pos := _, after := _, guard := _ } :: _) _ _); refine wpList_load_row rfl 62 (.tmp 10) rfl wr.heap.size rfl 62 X.cells (0, 0) _ (Row.arr RX.out) Tryz.underlying62 rfl HZE.out ?_)
        | (go_at_call 42; refine (HEK.out _ _ _ HO3.out HB3.out (by have := HLB.out; omega)).mono ?_; rintro e w4 ⟨v4, rfl, hown4, hb4⟩))
      go_roundw
      case rel => exact ⟨k + 1, by omega, by go_num, hid (by rw [HNX.out, ← List.append_assoc]; exact hown4), hid (HB3.out.trans hb4)⟩
      case measure => simp [intOf]; omega
    · obtain rfl : k = m.xs.length := by omega
      have h := HO.out
      rw [List.take_length] at h
      clear HO
      have HO := hid h
      clear h
      go_wp2_with fail
      go_ret
      refine ⟨_, rfl, ?_, HB.out⟩
      have h := HO.out
      show World.ownsRow _ _ _ _ _ (bs ++ layP m 73).length (bvs (bs ++ layP m 73))
      have e : bs ++ layP m 73 = bs ++ m.xs.flatMap itemB := by first | rfl | (unfold layP; simp)
      rw [e]
      exact h
/-- the signs of fields that stand in the header -/
theorem lay_none (m : Ms) (p : Pl) (v : Value) (bs : List UInt8) (D : Nat) (w : World) (hown : w.ownsRow D 5 1 v bs.length (bvs bs)) (hD : D ≤ w.heap.size) (c : Nat) (hc : c ∈ sgN) :
    Calls Tryz.prog 19 #[v, .agg (m.cells p), .int .i32 (c : Int)] w (LY w D bs) := by
  have HO0 := hid (own_allocM hown (.cells (m.cells p) 32))
  have HB0 : Hid (Below D w (w.alloc (.cells (m.cells p) 32))) := hid ((Below.refl _ _).alloc hD _)
  clear hown
  simp only [sgN, List.mem_cons, List.not_mem_nil, or_false] at hc
  rcases hc with rfl | rfl | rfl | rfl | rfl | rfl | rfl | rfl | rfl | rfl
  all_goals
    go_enter Tryz.func19, Tryz.ntmps19
    go_wp2_with fail
    go_ret
    exact ⟨_, rfl, HO0.out, HB0.out⟩
theorem layP_none (m : Ms) (c : Nat) (hc : c ∈ sgN) : layP m c = [] := by
  simp only [sgN, List.mem_cons, List.not_mem_nil, or_false] at hc
  rcases hc with rfl | rfl | rfl | rfl | rfl | rfl | rfl | rfl | rfl | rfl <;> rfl
theorem lay_any17 (m : Ms) (p : Pl) (v : Value) (bs : List UInt8) (D B : Nat) (w : World) (hown : w.ownsRow D 5 1 v bs.length (bvs bs)) (hD : D ≤ w.heap.size) (hbs : bs.length ≤ 4000) (hm : PlOk w B m p) (hBD : B ≤ D) (hf : m.fits)
    (hb : m.body.size ≤ 1000) (hfd : ∀ W, Below D w W → Fd W) (c : Nat) (hc : c ∈ sgA) (hy : mayS m c) :
    Calls Tryz.prog 19 #[v, .agg (m.cells p), .int .i32 (c : Int)] w (LY w D (bs ++ layP m c)) := by
  by_cases hn : c ∈ sgN
  · rw [layP_none m c hn, List.append_nil]
    exact lay_none m p v bs D w hown hD c hn
  simp only [sgA, sgN, List.mem_cons, List.not_mem_nil, or_false] at hc hn
  have h6 : c = 67 ∨ c = 83 ∨ c = 69 ∨ c = 76 ∨ c = 73 ∨ c = 66 := by omega
  clear hc hn
  rcases h6 with rfl | rfl | rfl | rfl | rfl | rfl
  · exact lay_67 m p v bs D w hown hD hbs hf.2.2.1
  · exact lay_83 m p v bs D w hown hD hbs hf.2.2.2.1.1 hf.2.2.2.1.2
  · exact lay_69 m p v bs D w hown hD hbs hf.2.2.2.2.1 hy hfd
  · exact lay_76 m p v bs D w hown hD hbs B hm hBD hf.2.2.2.2.2.1 hy hfd
  · exact lay_73 m p v bs D w hown hD hbs B hm hBD hf.2.2.2.2.2.2 hy hfd
  · exact lay_66 m p v bs D w hown hD hbs hb
end Go.Proofs.YtcildaeiogdfdaaGreatDoor
/-
  The program's headOf, Encode.
-/
namespace Go.Proofs.YtcildaeiogdfdaaGreatDoor
open Go.RowKit
set_option maxRecDepth 10000

theorem own_nilP (w : World) (B : Nat) : w.ownsRow B 5 1 (.slice none 0 0) 0 [] := ⟨by simp, .inl ⟨rfl, rfl⟩⟩
theorem own_stepM {b : Nat} {W W1 : World} {D n : Nat} {e : TypeId} {size : Nat} {v : Value} {xs : List Value} (h : W.ownsRow D e size v n xs) (hst : Stepped b W W1) (hlt : b < D) : W1.ownsRow D e size v n xs := by
  obtain ⟨h1, h2⟩ := h
  refine ⟨h1, ?_⟩
  rcases h2 with h2 | ⟨g, cap, cur, hv, hg, hh, r⟩
  · exact .inl h2
  · exact .inr ⟨g, cap, cur, hv, hg, by rw [hst.other (by omega)]; exact hh, r⟩
theorem yields_strP {P : Program} {ops : Array Oper} {S : World → Prop} {o : Oper} {a : Act} (hw : Region.wanted o (yielded ops a.tmps) = true) (x : Operand) (src dst : TypeId)
    (ho : o.op = .convert src dst x) (e : TypeId) (hs : P.underlying src = some (.slice e)) (he : P.underlying e = some (.int .u8)) (hd : P.underlying dst = some .string)
    (A : Option Addr) (l c : Nat) (hx : a.eval x = .slice A l c) (B : Nat) (bs : List UInt8) (hr : ∀ w, S w → Rd w B A (bvs bs)) (hl : l = bs.length) : YieldsIf P ops S o (.string ⟨bs.toArray⟩) a :=
  .inl ⟨hw, fun w hw' => by
    unfold execOp
    simp only [ho, Sem.run_bind, Sem.run_pure, Result.andThen_ok, hx, run_str w src e hs he dst hd B A bs l c hl (hr w hw')]⟩
set_option maxHeartbeats 4000000 in
theorem headOf_any (m : Ms) (p : Pl) (w : World) : Calls Tryz.prog 21 #[.agg (m.cells p)] w (VE w (.agg (hdM m).cells)) := by
  have R1 : Row ((w.alloc (.cells (m.cells p) 32)).alloc (.cells #[.int .i64 0, .int .i64 0, .int .i64 0, .int .i64 0, .int .i64 0, .int .i64 0, .int .i64 0, .int .i64 0, .int .i64 0, .int .i64 0, .int .i64 0, .int .u64 0] 42)) w.heap.size 32 (m.cells p).toList := (Row.new _ _ _).alloc _
  have a0 : ((w.alloc (.cells (m.cells p) 32)).alloc (.cells #[.int .i64 0, .int .i64 0, .int .i64 0, .int .i64 0, .int .i64 0, .int .i64 0, .int .i64 0, .int .i64 0, .int .i64 0, .int .i64 0, .int .i64 0, .int .u64 0] 42)).cell? ⟨w.heap.size, 0, none⟩ = some (.int .i64 m.kind) := R1.cell 0
  have a1 : ((w.alloc (.cells (m.cells p) 32)).alloc (.cells #[.int .i64 0, .int .i64 0, .int .i64 0, .int .i64 0, .int .i64 0, .int .i64 0, .int .i64 0, .int .i64 0, .int .i64 0, .int .i64 0, .int .i64 0, .int .u64 0] 42)).cell? ⟨w.heap.size, 1, none⟩ = some (.int .i64 m.frm) := R1.cell 1
  have a2 : ((w.alloc (.cells (m.cells p) 32)).alloc (.cells #[.int .i64 0, .int .i64 0, .int .i64 0, .int .i64 0, .int .i64 0, .int .i64 0, .int .i64 0, .int .i64 0, .int .i64 0, .int .i64 0, .int .i64 0, .int .u64 0] 42)).cell? ⟨w.heap.size, 2, none⟩ = some (.int .i64 m.view) := R1.cell 2
  have a3 : ((w.alloc (.cells (m.cells p) 32)).alloc (.cells #[.int .i64 0, .int .i64 0, .int .i64 0, .int .i64 0, .int .i64 0, .int .i64 0, .int .i64 0, .int .i64 0, .int .i64 0, .int .i64 0, .int .i64 0, .int .u64 0] 42)).cell? ⟨w.heap.size, 3, none⟩ = some (.int .i64 m.lv) := R1.cell 3
  have a4 : ((w.alloc (.cells (m.cells p) 32)).alloc (.cells #[.int .i64 0, .int .i64 0, .int .i64 0, .int .i64 0, .int .i64 0, .int .i64 0, .int .i64 0, .int .i64 0, .int .i64 0, .int .i64 0, .int .i64 0, .int .u64 0] 42)).cell? ⟨w.heap.size, 4, none⟩ = some (.int .i64 m.opn) := R1.cell 4
  have a5 : ((w.alloc (.cells (m.cells p) 32)).alloc (.cells #[.int .i64 0, .int .i64 0, .int .i64 0, .int .i64 0, .int .i64 0, .int .i64 0, .int .i64 0, .int .i64 0, .int .i64 0, .int .i64 0, .int .i64 0, .int .u64 0] 42)).cell? ⟨w.heap.size, 5, none⟩ = some (.int .i64 m.commit) := R1.cell 5
  have a6 : ((w.alloc (.cells (m.cells p) 32)).alloc (.cells #[.int .i64 0, .int .i64 0, .int .i64 0, .int .i64 0, .int .i64 0, .int .i64 0, .int .i64 0, .int .i64 0, .int .i64 0, .int .i64 0, .int .i64 0, .int .u64 0] 42)).cell? ⟨w.heap.size, 6, none⟩ = some (.int .i64 m.client) := R1.cell 6
  have a7 : ((w.alloc (.cells (m.cells p) 32)).alloc (.cells #[.int .i64 0, .int .i64 0, .int .i64 0, .int .i64 0, .int .i64 0, .int .i64 0, .int .i64 0, .int .i64 0, .int .i64 0, .int .i64 0, .int .i64 0, .int .u64 0] 42)).cell? ⟨w.heap.size, 7, none⟩ = some (.int .i64 m.session) := R1.cell 7
  have a8 : ((w.alloc (.cells (m.cells p) 32)).alloc (.cells #[.int .i64 0, .int .i64 0, .int .i64 0, .int .i64 0, .int .i64 0, .int .i64 0, .int .i64 0, .int .i64 0, .int .i64 0, .int .i64 0, .int .i64 0, .int .u64 0] 42)).cell? ⟨w.heap.size, 8, none⟩ = some (.int .i64 m.request) := R1.cell 8
  have a9 : ((w.alloc (.cells (m.cells p) 32)).alloc (.cells #[.int .i64 0, .int .i64 0, .int .i64 0, .int .i64 0, .int .i64 0, .int .i64 0, .int .i64 0, .int .i64 0, .int .i64 0, .int .i64 0, .int .i64 0, .int .u64 0] 42)).cell? ⟨w.heap.size, 9, none⟩ = some (.int .i64 m.oper) := R1.cell 9
  have a10 : ((w.alloc (.cells (m.cells p) 32)).alloc (.cells #[.int .i64 0, .int .i64 0, .int .i64 0, .int .i64 0, .int .i64 0, .int .i64 0, .int .i64 0, .int .i64 0, .int .i64 0, .int .i64 0, .int .i64 0, .int .u64 0] 42)).cell? ⟨w.heap.size, 10, none⟩ = some (.int .i64 m.index) := R1.cell 10
  have a11 : ((w.alloc (.cells (m.cells p) 32)).alloc (.cells #[.int .i64 0, .int .i64 0, .int .i64 0, .int .i64 0, .int .i64 0, .int .i64 0, .int .i64 0, .int .i64 0, .int .i64 0, .int .i64 0, .int .i64 0, .int .u64 0] 42)).cell? ⟨w.heap.size, 11, none⟩ = some (.int .i64 m.size) := R1.cell 11
  by_cases h : m.kind = 13
  · have e1 : (m.kind == 13) = true := by simp [h]
    have HQ : Hid (hdM m = ⟨m.kind, m.frm, m.oper, m.view, m.opn, m.commit, m.client, m.session, m.request, m.lv, m.size, 0⟩) := hid (by unfold hdM; rw [if_pos h])
    generalize m.cells p = Z at *
    clear h R1
    go_enter Tryz.func21, Tryz.ntmps21
    go_wp2_with fail
    refine bodyPost_ret (v := .agg #[.int .i64 m.kind, .int .i64 m.frm, .int .i64 m.oper, .int .i64 m.view, .int .i64 m.opn, .int .i64 m.commit, .int .i64 m.client, .int .i64 m.session, .int .i64 m.request, .int .i64 m.lv, .int .i64 m.size, .int .u64 0])
      (results_cell_row rfl _ _ (w.heap.size + 1) 42 _ (0, 0) _ rfl (alloc2_new _ _ _) Tryz.underlying42 rfl (by kernel_rfl)) rfl ⟨by rw [HQ.out]; rfl, ((Below.refl _ _).alloc (Nat.le_refl _) _).alloc (by simp) _⟩
  · have e1 : (m.kind == 13) = false := by simp [h]
    have HQ : Hid (hdM m = ⟨m.kind, m.frm, m.oper, m.view, m.opn, m.commit, m.client, m.session, m.request, m.lv, m.index, 0⟩) := hid (by unfold hdM; rw [if_neg h])
    generalize m.cells p = Z at *
    clear h R1
    go_enter Tryz.func21, Tryz.ntmps21
    go_wp2_with fail
    refine bodyPost_ret (v := .agg #[.int .i64 m.kind, .int .i64 m.frm, .int .i64 m.oper, .int .i64 m.view, .int .i64 m.opn, .int .i64 m.commit, .int .i64 m.client, .int .i64 m.session, .int .i64 m.request, .int .i64 m.lv, .int .i64 m.index, .int .u64 0])
      (results_cell_row rfl _ _ (w.heap.size + 1) 42 _ (0, 0) _ rfl (alloc2_new _ _ _) Tryz.underlying42 rfl (by kernel_rfl)) rfl ⟨by rw [HQ.out]; rfl, ((Below.refl _ _).alloc (Nat.le_refl _) _).alloc (by simp) _⟩
set_option maxHeartbeats 8000000 in
theorem menc_any (m : Ms) (p : Pl) (B : Nat) (w : World) (hm : PlOk w B m p) (hB : B ≤ w.heap.size) (hf : m.fits) (hfd : Fd w) (hmd : Md w) :
    Calls Tryz.prog 8 #[.agg (m.cells p)] w (SN w (encM m)) := by
  have HZS := hid mssize
  have HR : Hid (∀ W, Below w.heap.size w W → Calls Tryz.prog 9 #[.agg (m.cells p)] W (VE W (.bool (decide (rightM m))))) := hid fun W hW =>
    mright_any m p B W ⟨hm.a.below hW hB, hm.b.below hW hB, hm.la, hm.lb, hm.ca, hm.cb⟩ (Nat.le_trans hB hW.size) hf (hfd.below hW hfd.1) (hmd.below hW hmd.1)
  have HB0 : Hid (Below w.heap.size w (w.alloc (.cells (m.cells p) 32))) := hid ((Below.refl _ _).alloc (Nat.le_refl _) _)
  have R1 : Hid (Row (w.alloc (.cells (m.cells p) 32)) w.heap.size 32 (m.cells p).toList) := hid (Row.new _ _ _)
  by_cases hr : rightM m
  case neg =>
    rw [decide_eq_false hr] at HR
    have HE : Hid (encM m = ([], 4)) := hid (enc_no hr)
    clear hm hf hfd hmd hr
    go_enter Tryz.func8, Tryz.ntmps8
    go_wp2_with (first
      | ((with_reducible show wpList _ _ _ ({ dst := some 7, op := _, type := _, pos := _, after := _, guard := _ } :: _) _ _); refine wpList_load_row rfl 32 (.tmp 1) rfl w.heap.size rfl 32 (m.cells p) (0, 0) _ (Row.arr R1.out) Tryz.underlying32 rfl HZS.out ?_)
      | (go_at_call 9; refine (HR.out _ HB0.out).mono ?_; rintro e w1 ⟨rfl, hb1⟩))
    go_ret2
    exact ⟨by rw [HE.out]; rfl, HB0.out.trans (hb1.mono HB0.out.size)⟩
  rw [decide_eq_true hr] at HR
  obtain ⟨n, hn⟩ : ∃ n : Nat, m.kind = (n : Int) := ⟨m.kind.toNat, by have := hr.1.1; omega⟩
  have hn17 : n < 17 := by have := hr.1.1; omega
  have HN := hid hn
  have HN17 := hid hn17
  have HL16 : Hid ((sgK m.kind).length ≤ 6) := hid (by rcases kind16 hr.1.1 with e | e | e | e | e | e | e | e | e | e | e | e | e | e | e | e <;> rw [e] <;> decide)
  have HOK := hid ((right_signs m hf).1 hr).2
  have HBD := hid (body_signs m hr)
  have HBL := hid (body_len hf hr)
  have HMD : Hid (∀ W, Below w.heap.size w W → Md W) := hid fun W hW => hmd.below hW hmd.1
  have HLY : Hid (∀ (D : Nat) (v : Value) (bs : List UInt8) (W : World), w.heap.size ≤ D → W.ownsRow D 5 1 v bs.length (bvs bs) → D ≤ W.heap.size → bs.length ≤ 4000 → Below w.heap.size w W → ∀ c ∈ sgK m.kind, Calls Tryz.prog 19 #[v, .agg (m.cells p), .int .i32 (c : Int)] W (LY W D (bs ++ layP m c))) :=
    hid fun D v bs W hD ho hDW hbs hW c hc => lay_any17 m p v bs D B W ho hDW hbs ⟨hm.a.below hW hB, hm.b.below hW hB, hm.la, hm.lb, hm.ca, hm.cb⟩ (Nat.le_trans hB hD) hf (by have := hr.2.2.1.1; omega)
      (fun W2 h2 => hfd.below (hW.trans (h2.mono hD)) hfd.1) c (sgK_all _ c hc) (by have h := HOK.out c (sgK_all _ c hc); unfold okS at h; rwa [if_pos hc] at h)
  have HHD := hid (fun W => headOf_any m p W)
  have HPK : Hid (∀ W, Below w.heap.size w W → Calls Tryz.prog 20 #[.agg (hdM m).cells, .string ⟨(bodyM m).toArray⟩] W (SN W (encM m))) := hid fun W hW => by
    have h := pack_any (hdM m) ⟨(bodyM m).toArray⟩ W (hfd.below hW hfd.1)
    rw [sb_mk] at h
    unfold encM
    rw [if_pos hr]
    exact h
  clear hr hf hm hfd hmd
  go_enter Tryz.func8, Tryz.ntmps8
  go_upto_region 4 with (first
    | ((with_reducible show wpList _ _ _ ({ dst := some 7, op := _, type := _, pos := _, after := _, guard := _ } :: _) _ _); refine wpList_load_row rfl 32 (.tmp 1) rfl w.heap.size rfl 32 (m.cells p) (0, 0) _ (Row.arr R1.out) Tryz.underlying32 rfl HZS.out ?_)
    | (go_at_call 9; refine (HR.out _ HB0.out).mono ?_; rintro e w1 ⟨rfl, hb1⟩; have R2 := hid (R1.out.below hb1 R1.out.lt); have HB2 := hid (HB0.out.trans (hb1.mono HB0.out.size)); clear hb1))
  have c0 : w1.cell? ⟨w.heap.size, 0, none⟩ = some (.int .i64 (n : Int)) := by rw [R2.out.cell]; show some (Value.int .i64 m.kind) = _; rw [HN.out]
  have ct : w1.cell? ⟨0, n, none⟩ = some (.string (strL (sgK (n : Int)))) := ((HMD.out w1 HB2.out).get HN17.out).trans rfl
  have hi0 : (0 : Int) ≤ (n : Int) := by omega
  have hi17 : (n : Int) < 17 := by omega
  have HKC : Hid (sgK (n : Int) = sgK m.kind) := hid (by rw [HN.out])
  have HLT := hid R2.out.lt
  have HSM := hid (rfl : (∃ D, D = w1.heap.size + 1) = (∃ D, D = w1.heap.size + 1))
  clear hn
  go_wp2_with fail
  go_loopw [4] (fun b wr => ∃ k : Nat, k ≤ (sgK m.kind).length ∧ Hid (wr.heap[w1.heap.size]? = some (.stringIter (strL (sgK (n : Int))) k)) ∧ Hid (wr.ownsRow (w1.heap.size + 1) 5 1 b (((sgK m.kind).take k).flatMap (layP m)).length (bvs (((sgK m.kind).take k).flatMap (layP m)))) ∧ Hid (Row wr w.heap.size 32 (m.cells p).toList) ∧ Hid (Below w.heap.size w wr)) (fun _ wr => (sgK m.kind).length - wr.iterPos w1.heap.size)
  case atStart => exact ⟨0, by omega, hid (World.iter_heap _ _ _), hid (own_nilP _ _), hid (R2.out.alloc _), hid (HB2.out.alloc HB2.out.size _)⟩
  case round =>
    clear R1 HB0 c0 ct R2 HB2
    obtain ⟨k, hk, HI, HO, R3, HB3⟩ := hrel
    have hps := iterPos_of HI.out
    have HIL : Hid (w1.heap.size < wr.heap.size) := hid (Array.getElem?_eq_some_iff.1 HI.out).1
    have HBK : Hid ((((sgK m.kind).take k).flatMap (layP m)).length ≤ 3968) := hid (by
      have h := HBL.out
      rw [← HBD.out] at h
      conv at h => lhs; rw [← List.take_append_drop k (sgK m.kind)]
      rw [List.flatMap_append, List.length_append] at h
      omega)
    by_cases hlt : k < (sgK m.kind).length
    · obtain ⟨c, W1, hc, htk, hnx, hI1, hst⟩ := sign_next Tryz.prog (sgK (n : Int)) (sgK_lt _) HI.out (by rw [HKC.out]; exact hlt)
      have R4 := hid (hst.row (by have := HLT.out; omega) R3.out)
      have HB4 := hid (hst.below (Nat.le_of_lt HLT.out) HB3.out)
      have HO4 := hid (own_stepM HO.out hst (by omega))
      have HI1 := hid hI1
      rw [HKC.out] at hc htk
      have HTK := hid htk
      have hsz1 : W1.heap.size = wr.heap.size := hst.size
      have HM := hid (HLY.out (w1.heap.size + 1) _ _ W1 (by have := HLT.out; omega) HO4.out (by have := HIL.out; omega) (by have := HBK.out; omega) HB4.out c hc)
      clear htk hst hI1 HI R3 HB3 hc HO
      go_wp2_with (first
        | ((with_reducible show wpList _ _ _ ({ dst := some 19, op := _, type := _, pos := _, after := _, guard := _ } :: _) _ _); refine wpList_load_row rfl 32 (.tmp 1) rfl w.heap.size rfl 32 (m.cells p) (0, 0) _ (Row.arr R4.out) Tryz.underlying32 rfl HZS.out ?_)
        | (go_at_call 19; refine HM.out.mono ?_; rintro e w3 ⟨v3, rfl, hown3, hb3⟩))
      go_roundw
      case rel => exact ⟨k + 1, by omega, hid ((hb3.block _ (by omega)).trans HI1.out), hid (by rw [HTK.out, List.flatMap_append, List.flatMap_cons, List.flatMap_nil, List.append_nil]; exact hown3), hid (R4.out.below hb3 (by have := HLT.out; omega)), hid (HB4.out.trans (hb3.mono (by have := HLT.out; omega)))⟩
      case measure =>
        rw [hps, iterPos_of ((hb3.block _ (by omega)).trans HI1.out)]
        omega
    · obtain rfl : k = (sgK m.kind).length := by omega
      have hnx := sign_end Tryz.prog (sgK (n : Int)) HI.out (by rw [HKC.out]; omega)
      have ho := HO.out
      rw [List.take_length, HBD.out] at ho
      obtain ⟨AB, cB, hv, -, -, hrd⟩ := own_shape ho
      subst hv
      have HYL : Hid ((bodyM m).length = (bodyM m).length) := hid rfl
      obtain ⟨Y, hY⟩ : ∃ Y, Y = bodyM m := ⟨_, rfl⟩
      rw [← hY] at hrd HPK
      have HPK2 : Hid (∀ W, Below w.heap.size w W → Calls Tryz.prog 20 #[.agg (hdM m).cells, .string ⟨Y.toArray⟩] W (SN W (encM m))) := HPK
      clear ho HO HPK HBK hlt
      rw [← hY]
      clear hY HBD HBL HYL
      generalize encM m = T at *
      obtain ⟨T, f⟩ := T
      have HRD := hid (show Rd wr.drew wr.heap.size AB (bvs Y) from hrd)
      go_wp2_with fail
      refine wp_region_held_drew (S := (fun W => Row W w.heap.size 32 (m.cells p).toList ∧ Below w.heap.size w W ∧ Rd W wr.heap.size AB (bvs Y) ∧ wr.heap.size ≤ W.heap.size)) (by kernel_rfl) (⟨R3.out.drew, HB3.out.drew, HRD.out, Nat.le_refl _⟩) (fun hH => ?_)
      refine tk_ (i := 0) (v := .agg (m.cells p)) rfl (yieldsIf_load_mid (by kernel_rfl) 32 (.tmp 1) rfl (w.heap.size) (0) rfl (Array.toList (m.cells p)) _ (fun W hW => Row.range hW.1) Tryz.underlying32 rfl (by exact HZS.out)) hH ?_
      simp only [Act.put, la1, la3, la4, la5, la6]
      refine tk_ (i := 2) (v := .slice AB Y.length cB) rfl (Or.inl ⟨by kernel_rfl, fun w' _ => by kernel_rfl⟩) hH ?_
      simp only [Act.put, la1, la2, la3, la4, la5, la6]
      refine tk_ (i := 3) (v := .string ⟨Y.toArray⟩) rfl (yields_strP (by kernel_rfl) (.tmp 24) 47 9 rfl 5 Tryz.underlying47 Tryz.underlying5 Tryz.underlying9 AB Y.length cB (by kernel_rfl) wr.heap.size Y (fun W hW => hW.2.2.1) rfl) hH ?_
      simp only [Act.put, la1, la2, la3, la4, la5, la6]
      refine rd1 (i := 1) (by kernel_rfl) rfl (fun K hK => ?_)
      go_simp
      go_at_call 21
      refine (HHD.out _).mono ?_
      rintro e w2 ⟨rfl, hb1⟩
      go_wp2_with fail
      refine hK.out _ _ (⟨hH.1.below hb1 hH.1.lt, hH.2.1.trans (hb1.mono hH.2.1.size), hH.2.2.1.below hb1 hH.2.2.2, Nat.le_trans hH.2.2.2 hb1.size⟩) (fun hH => ?_)
      clear hK K
      try simp only [Act.put, la1, la2, la3, la4, la5, la6]
      refine rd1 (i := 4) (by kernel_rfl) rfl (fun K hK => ?_)
      go_simp
      go_at_call 20
      refine (HPK2.out _ hH.2.1).mono ?_
      rintro e w3 ⟨rfl, hb1⟩
      go_wp2_with fail
      refine hK.out _ _ (⟨hH.1.below hb1 hH.1.lt, hH.2.1.trans (hb1.mono hH.2.1.size), hH.2.2.1.below hb1 hH.2.2.2, Nat.le_trans hH.2.2.2 hb1.size⟩) (fun hH => ?_)
      clear hK K
      try simp only [Act.put, la1, la2, la3, la4, la5, la6]
      refine tk_ (i := 5) (v := .string ⟨T.toArray⟩) rfl (Or.inl ⟨by rfl, fun w' hw' => by clear hw'; go_simp⟩) hH ?_
      simp only [Act.put, la1, la2, la3, la4, la5, la6]
      refine tk_ (i := 6) (v := .int .i64 f) rfl (Or.inl ⟨by rfl, fun w' hw' => by clear hw'; go_simp⟩) hH ?_
      simp only [Act.put, la1, la2, la3, la4, la5, la6]
      refine rd1 (i := 7) (by kernel_rfl) rfl (fun K hK => ?_)
      go_simp
      refine hK.out _ _ (hH) (fun hH => ?_)
      clear hK K
      try simp only [Act.put, la1, la2, la3, la4, la5, la6]
      refine rd1 (i := 8) (by kernel_rfl) rfl (fun K hK => ?_)
      go_simp
      refine hK.out _ _ (hH) (fun hH => ?_)
      clear hK K
      try simp only [Act.put, la1, la2, la3, la4, la5, la6]
      refine wpAnyH_done (by kernel_rfl) ?_ _
      try simp only [Act.put, la1, la2, la3, la4, la5, la6]
      go_wp2_with fail
      go_ret2
      exact ⟨rfl, hH.2.1⟩
end Go.Proofs.YtcildaeiogdfdaaGreatDoor
