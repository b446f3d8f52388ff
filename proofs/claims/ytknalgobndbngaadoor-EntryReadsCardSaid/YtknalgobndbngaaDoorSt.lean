/-
  The walks of package crc's inner functions: a step, the table, a chain's step.
-/
import Derived.Test.YtknalgobndbngaaDoorRows
import Derived.Test.YtknalgobndbngaaDoorPre
import Derived.Test.YtknalgobndbngaaDoorMath
namespace Go.Proofs.YtknalgobndbngaaDoor
open Go.RowKit
set_option maxRecDepth 10000

theorem ret_int {k : IntKind} {a b : Int} (h : a = b) : Ending.returned (.int k a) = .returned (.int k b) := by rw [h]

theorem rs_calls (x : BitVec 32) (w : World) :
    Calls Tryd.prog 57 #[.int .u32 (x.toNat : Int)] w fun e w' => e = .returned (.int .u32 ((rs x).toNat : Int)) ∧ w = w' := by
  have h1 : x.toNat < 4294967296 := x.isLt
  have HC := hid (rs_code x)
  go_enter Tryd.func57, Tryd.ntmps57
  go_wp2
  go_ret
  exact ⟨ret_int HC.out, rfl⟩


theorem mod2_true (x : BitVec 32) (h : x.toNat % 2 = 1) : (((x.toNat : Int) % 2) == 1) = true := by simp; omega
theorem mod2_false (x : BitVec 32) (h : ¬ x.toNat % 2 = 1) : (((x.toNat : Int) % 2) == 1) = false := by simp; omega

set_option maxHeartbeats 400000 in
theorem steps_calls (x : BitVec 32) (w : World) :
    Calls Tryd.prog 55 #[.int .u32 (x.toNat : Int), .int .i64 8] w fun e w' => e = .returned (.int .u32 ((rsn 8 x).toNat : Int)) ∧ w = w' := by
  go_enter Tryd.func55, Tryd.ntmps55
  go_wp2
  go_loop [0, 5] (fun r i => ∃ k : Nat, k ≤ 8 ∧ i = .int .i64 k ∧ r = .int .u32 ((rsn k x).toNat : Int)) (fun _ i => 8 - (intOf i).toNat)
  case atStart => exact ⟨0, by omega, rfl, rfl⟩
  case round =>
    obtain ⟨k, hk, rfl, rfl⟩ := hrel
    have h1 : (rsn k x).toNat < 4294967296 := (rsn k x).isLt
    by_cases hlt : k < 8
    · by_cases ho : (rsn k x).toNat % 2 = 1
      · have HC := hid (rs_odd _ ho)
        have ht := mod2_true _ ho
        clear ho
        go_wp2_with fail
        go_round
        case rel => exact ⟨k + 1, by omega, by go_num, by rw [HC.out]; rfl⟩
        case measure => simp [intOf]; omega
      · have HC := hid (rs_even _ ho)
        have ht := mod2_false _ ho
        clear ho
        go_wp2_with fail
        go_round
        case rel => exact ⟨k + 1, by omega, by go_num, by rw [HC.out]; rfl⟩
        case measure => simp [intOf]; omega
    · obtain rfl : k = 8 := by omega
      go_wp2_with fail
      go_ret
      exact ⟨rfl, rfl⟩

/-- the table's first k entries; the others are none -/
def tab (k : Nat) : List Value := (List.range k).map (fun i => Value.int .u32 ((rsn 8 (BitVec.ofNat 32 i)).toNat : Int)) ++ List.replicate (256 - k) (.int .u32 0)
theorem tab_len (k : Nat) (h : k ≤ 256) : (tab k).length = 256 := by simp [tab]; omega
theorem tab_zero : tab 0 = List.replicate 256 (.int .u32 0) := by simp only [tab, List.range_zero, List.map_nil, List.nil_append, Nat.sub_zero]
theorem tab_set (k : Nat) (h : k < 256) : (tab k).set k (.int .u32 ((rsn 8 (BitVec.ofNat 32 k)).toNat : Int)) = tab (k + 1) := by
  apply List.ext_getElem?
  intro j
  rw [List.getElem?_set]
  by_cases hj : k = j
  · subst hj
    rw [if_pos rfl, if_pos (by rw [tab_len k (by omega)]; exact h), tab, List.getElem?_append_left (by simp)]
    simp
  · rw [if_neg hj]
    by_cases hlt : j < k
    · rw [tab, tab, List.getElem?_append_left (by simpa using hlt), List.getElem?_append_left (by simp; omega)]
      simp [List.getElem?_range hlt, List.getElem?_range (show j < k + 1 by omega)]
    · rw [tab, tab, List.getElem?_append_right (by simp; omega), List.getElem?_append_right (by simp; omega)]
      simp [List.getElem?_replicate]
      by_cases h2 : j < 256
      · rw [if_pos (by omega), if_pos (by omega)]
      · rw [if_neg (by omega), if_neg (by omega)]
theorem tab_get (i : Nat) (h : i < 256) : (tab 256)[i]? = some (.int .u32 ((rsn 8 (BitVec.ofNat 32 i)).toNat : Int)) := by
  rw [tab, List.getElem?_append_left (by simpa using h)]
  simp [List.getElem?_range h]
theorem tab_one : ∀ u ∈ tab 256, u.oneCell' = true := by
  intro u hu
  simp only [tab, List.mem_append, List.mem_map, List.mem_replicate] at hu
  rcases hu with ⟨i, _, rfl⟩ | ⟨_, rfl⟩ <;> rfl

def z256 : Array Value := (List.replicate 256 (.int .u32 0)).toArray
theorem zero256 (w : World) : (zeroValue 74).run Tryd.prog w = .ok (.agg z256) w := by kernel_rfl
theorem z256_list : z256.toList = tab 0 := by rw [tab_zero]; rfl

set_option maxRecDepth 100000 in
set_option maxHeartbeats 400000 in
theorem table_calls (w : World) :
    Calls Tryd.prog 51 #[] w fun e w' => e = .returned (.agg (tab 256).toArray) ∧ Below w.heap.size w w' := by
  have hz := zero256
  go_enter Tryd.func51, Tryd.ntmps51
  go_wp2_with fail
  go_loopw [4] (fun i wr => ∃ k : Nat, k ≤ 256 ∧ i = .int .i64 k ∧ Row wr w.heap.size 74 (tab 0) ∧ Row wr (w.heap.size + 1) 74 (tab k) ∧ Below w.heap.size w wr) (fun i _ => 256 - (intOf i).toNat)
  case atStart =>
    have h1 := Row.new w 74 z256
    have h2 := Row.new (w.alloc (.cells z256 74)) 74 z256
    rw [z256_list] at h1 h2
    simp only [World.alloc, Array.size_push] at h2
    exact ⟨0, by omega, rfl, h1.alloc _, h2, ((Below.refl _ _).alloc (Nat.le_refl _) _).alloc (by simp) _⟩
  case round =>
    obtain ⟨k, hk, rfl, hr0, hr1, hbe⟩ := hrel
    by_cases hlt : k < 256
    · obtain ⟨u, hu⟩ : ∃ u, (tab k)[k]? = some u := ⟨_, List.getElem?_eq_getElem (by rw [tab_len k hk]; exact hlt)⟩
      have hc := (hr1.cell k).trans hu
      have hf := hr1.frozen k
      have hst := hr1.set_ k (.int .u32 ((rsn 8 (BitVec.ofNat 32 k)).toNat : Int))
      have hst0 := hr0.far (p := ⟨w.heap.size + 1, k, none⟩) (by simp) (.int .u32 ((rsn 8 (BitVec.ofNat 32 k)).toNat : Int))
      have hb2 := hbe.setCell (p := ⟨w.heap.size + 1, k, none⟩) (by simp) (.int .u32 ((rsn 8 (BitVec.ofNat 32 k)).toNat : Int))
      rw [tab_set k hlt] at hst
      have HS := hid hst
      have HS0 := hid hst0
      have HB := hid hb2
      clear hst hr0 hr1 hst0 hb2 hbe hu
      have hd : decide ((k : Int) < 256) = true := by simp; omega
      go_wp2_with fail
      go_loop [3, 9] (fun r i => ∃ j : Nat, j ≤ 8 ∧ i = .int .i64 j ∧ r = .int .u32 ((rsn j (BitVec.ofNat 32 k)).toNat : Int)) (fun _ i => 8 - (intOf i).toNat)
      case atStart => exact ⟨0, by omega, rfl, by simp [rsn]; omega⟩
      case round =>
        obtain ⟨j, hj, rfl, rfl⟩ := hrel
        by_cases hjl : j < 8
        · go_wp2_with (go_at_call 57; refine (rs_calls _ _).mono ?_; rintro e w' ⟨rfl, rfl⟩)
          go_round
          case rel => exact ⟨j + 1, by omega, by go_num, rfl⟩
          case measure => simp [intOf]; omega
        · obtain rfl : j = 8 := by omega
          go_wp2_with fail
          go_roundw
          case rel => exact ⟨k + 1, by omega, by go_num, HS0.out, HS.out, HB.out⟩
          case measure => simp [intOf]; omega
    · obtain rfl : k = 256 := by omega
      have HT : Hid ((tab 256).toArray.size = 256) := hid (by simpa using tab_len 256 (by omega))
      have HR1 := hid hr1
      have HR0 := hid hr0
      have hb0 := hr0.lt
      clear hr0 hr1
      go_wp2_with (first
        | (refine wpList_load_row rfl 74 (.tmp 1) rfl (w.heap.size + 1) rfl 74 (tab 256).toArray (0, 0) _ HR1.out Tryd.underlying74 rfl (by rw [HT.out]; kernel_rfl) ?_)
        | (refine wpList_store_row rfl 74 (.tmp 0) (.tmp 18) rfl w.heap.size (tab 256).toArray rfl rfl 74 (tab 0).toArray HR0.out (by rw [HT.out]; kernel_rfl) (by rw [HT.out]; simpa using tab_len 0 (by omega)) ?_ ?_))
      · rw [Array.all_eq_true']
        intro u hu
        exact tab_one u (by simpa using hu)
      · have hg := setRow_heap wr w.heap.size _ (tab 256).toArray 74 (0, 0) HR0.out
        exact bodyPost_ret (v := .agg (tab 256).toArray) (results_cell_row rfl _ _ w.heap.size 74 (tab 256).toArray (0, 0) _ rfl hg Tryd.underlying74 rfl (by rw [HT.out]; kernel_rfl)) rfl
          ⟨rfl, hbe.trans (below_grown (grownBy_setRow wr w.heap.size _) (Nat.le_refl _) (by omega))⟩
end Go.Proofs.YtknalgobndbngaaDoor
