/-
  The walks of what a list's elements are taken by: package event's takeAsked, and its two closures.
-/
import Derived.Test.YtbofabmgfkploaaTakes
namespace Go.Proofs.Ytbofabmgfkploaa
open Go.RowKit
set_option maxRecDepth 10000

theorem Row.arr {w : World} {g : Nat} {e : TypeId} {cs : Array Value} (h : Row w g e cs.toList) : w.heap[g]? = some (.cells cs e (0, 0)) := by simpa [Row] using h
theorem Row.arr' {w : World} {g : Nat} {e : TypeId} {cs : List Value} (h : Row w g e cs) : w.heap[g]? = some (.cells cs.toArray e (0, 0)) := h

/-- a store of a struct -/
theorem wpl_store_st {P : Program} {ops : Array Oper} {rest : List Oper} {o : Oper} {a : Act} {w : World} {Q : Exit → Act → World → Prop} (hgd : o.guard = none) {T : TypeId} (x y : Operand) (ho : o.op = .store T x y) {n : Nat} (hn : (P.info? T).map (·.size) = some n)
    (g : Nat) (cs0 cs : List Value) (hx : a.eval x = .pointer (some ⟨g, 0, none⟩)) (hy : a.eval y = .agg cs.toArray) (hrow : Row w g T cs0)
    (hK : ∀ w', Row w' g T cs → w.grownBy w' (some g) → wpList P ops Q rest (a.put o.dst undef) w')
    (h0 : Hid (cs0.length = n)) (h1 : Hid (cs.length = n)) (hone : Hid (cs.all (·.oneCell') = true)) : wpList P ops Q (o :: rest) a w :=
  wpList_plain hgd fun _ hK' => wp_store_row T x y ho g cs.toArray hx hy T cs0.toArray hrow (by rw [hn, List.size_toArray, h1.out]) (by simp [h0.out, h1.out]) (by simpa using hone.out)
    (hK' _ _ (hK _ (by
      have := setRow_heap w g cs0.toArray cs.toArray T (0, 0) hrow
      exact this) (grownBy_setRow w g _)))

theorem results_cell1 {P : Program} {fn : Func} {p u : Tmp} {ty : TypeId} (h : fn.results = #[.cell p ty, .tmp u]) (tmps : Array Value) (w : World) (g : Nat) (e : TypeId) (cs : Array Value) (fr : Nat × Nat) (d : TypeDesc) (y : Value)
    (hy : tmps.getD u undef = y) (hp : tmps.getD p undef = .pointer (some ⟨g, 0, none⟩)) (hg : w.heap[g]? = some (.cells cs e fr))
    (hu : P.underlying ty = some d) (hd : (match d with | .struct _ | .array _ _ => true | _ => false) = true) (hi : (P.info? ty).map (·.size) = some cs.size) :
    (results fn tmps).run P w = .ok (.tuple #[.agg cs, y]) w := by
  subst hy
  have hp' : tmps[p]?.getD undef = .pointer (some ⟨g, 0, none⟩) := by simpa using hp
  simp [results, h, hp', asAddr, run_loadVar_row w g e ty cs fr d hg hu hd hi]

/-- a struct and a yes or no -/
def AB (w : World) (r : List Value × Bool) (e : Ending) (w' : World) : Prop := e = .returned (.tuple #[.agg r.1.toArray, .bool r.2]) ∧ Below w.heap.size w w'
theorem acSize : (Try.prog.info? 45).map (·.size) = some 4 := by kernel_rfl
theorem trSize : (Try.prog.info? 43).map (·.size) = some 4 := by kernel_rfl

theorem sb_extract (s : ByteArray) (a b : Nat) : sb (s.extract a b) = ((sb s).drop a).take (b - a) := by simp [sb]
theorem at8_extract (s : ByteArray) (a b i : Nat) (h : i + 8 ≤ b - a) : at8 (sb (s.extract a b)) i = at8 (sb s) (a + i) := by
  rw [sb_extract]
  unfold at8
  rw [List.drop_take, List.take_take, List.drop_drop, Nat.min_eq_left (by omega)]

set_option maxHeartbeats 400000 in
theorem taka_no (s : ByteArray) (w : World) (h : ((s.size : Int) != 9) = true) : Calls Try.prog 67 #[.string s] w (AB w (ac0.cells, false)) := by
  have HZ := hid acSize
  go_enter Try.func67, Try.ntmps67
  go_wp2_with (refine wpl_store_st rfl (.tmp 2) (.tmp 8) rfl HZ.out w.heap.size ac0.cells ac0.cells rfl rfl (Row.new w _ _) ?_ (hid rfl) (hid rfl) (hid rfl); intro w3 hr3 hg3)
  refine bodyPost_ret (results_cell1 rfl _ _ w.heap.size 45 ac0.cells.toArray (0, 0) _ (.bool false) rfl rfl hr3.arr' Try.underlying45 rfl HZ.out) rfl ⟨rfl, ?_⟩
  exact ((Below.refl _ _).alloc (Nat.le_refl _) _).trans (below_grown hg3 (Nat.le_refl _) (by simp))

set_option maxHeartbeats 1000000 in
theorem taka_yes (s : ByteArray) (w : World) (h : s.size = 9) : Calls Try.prog 67 #[.string s] w (AB w ((decA (sb s)).cells, true)) := by
  have HZ := hid acSize
  have hI : ((s.size : Int) != 9) = false := by rw [h]; rfl
  have h8 : 8 < s.size := by omega
  have hE : (decA (sb s)).cells = [.int .u64 (at8 (sb (s.extract 0 8)) 0 : Int), .int .i64 (s[8].toNat : Int), .int .u64 0, .int .u64 0] := by
    rw [at8_extract s 0 8 0 (by omega)]
    show [Value.int .u64 (at8 (sb s) 0 : Int), .int .i64 (((sb s).getD 8 0).toNat : Int), .int .u64 0, .int .u64 0] = _
    have : (sb s).getD 8 0 = s[8] := by
      rw [List.getD, List.getElem?_eq_getElem (by rw [sb_len]; exact h8)]
      rfl
    rw [this]
  have hz8 : (s.extract 0 8).size = 8 * 1 := by simp; omega
  have hb8 := UInt8.toNat_lt s[8]
  have hw8 : wrap64 (s[8].toNat : Int) = (s[8].toNat : Int) := IntWalk.wrap64_in _ ⟨by omega, by omega⟩
  rw [hE]
  have H8 := hid hz8
  have HE : Hid (∀ b : Int, took [.int .u64 0, .int .i64 b, .int .u64 0, .int .u64 0] (sb (s.extract 0 8)) [0] 1 = [.int .u64 (at8 (sb (s.extract 0 8)) 0 : Int), .int .i64 b, .int .u64 0, .int .u64 0]) := hid fun b => rfl
  generalize at8 (sb (s.extract 0 8)) 0 = x at *
  have HW := hid (show ∀ b : Int, Row (((w.alloc (.cells #[.int .u64 0, .int .i64 0, .int .u64 0, .int .u64 0] 45)).alloc (.cells #[.int .u64 0, .int .i64 b, .int .u64 0, .int .u64 0] 45)).alloc (.cells #[.pointer (some ⟨w.heap.size + 1, 0, none⟩)] 106)) (w.heap.size + 1) 45 [.int .u64 0, .int .i64 b, .int .u64 0, .int .u64 0] from
    fun b => Row.alloc (alloc2_new _ _ _) _)
  have HZR := hid (show ∀ b : Int, Row (((w.alloc (.cells #[.int .u64 0, .int .i64 0, .int .u64 0, .int .u64 0] 45)).alloc (.cells #[.int .u64 0, .int .i64 b, .int .u64 0, .int .u64 0] 45)).alloc (.cells #[.pointer (some ⟨w.heap.size + 1, 0, none⟩)] 106)) w.heap.size 45 ac0.cells from
    fun b => Row.alloc (Row.alloc (Row.new _ _ _) _) _)
  have HPT := hid (show ∀ b : Int, Rd (((w.alloc (.cells #[.int .u64 0, .int .i64 0, .int .u64 0, .int .u64 0] 45)).alloc (.cells #[.int .u64 0, .int .i64 b, .int .u64 0, .int .u64 0] 45)).alloc (.cells #[.pointer (some ⟨w.heap.size + 1, 0, none⟩)] 106)) (w.heap.size + 3) (some ⟨w.heap.size + 1 + 1, 0, none⟩) (ptrs (w.heap.size + 1) [0]) from
    fun b => Row.rd (e := 106) (by
      have := Row.new ((w.alloc (.cells #[.int .u64 0, .int .i64 0, .int .u64 0, .int .u64 0] 45)).alloc (.cells #[.int .u64 0, .int .i64 b, .int .u64 0, .int .u64 0] 45)) 106 #[.pointer (some ⟨w.heap.size + 1, 0, none⟩)]
      simp only [World.size_alloc] at this
      exact this) (by omega))
  clear hE hz8
  go_enter Try.func67, Try.ntmps67
  go_wp2_with (first
    | (go_at_call 72; refine (take_yes (s.extract 0 8) (w.heap.size + 1) (w.heap.size + 1 + 1) 0 1 1 (w.heap.size + 3) 45 _ [0] _ (by omega) (by omega) rfl H8.out (HW.out _) (HPT.out _) (by omega) (by omega) (by intro o ho; simp at ho; subst ho; simp)).mono ?_; rintro e w2 ⟨rfl, hr2, hg2⟩; rw [HE.out] at hr2; have hz2 := (HZR.out _).grown hg2 (by simp))
    | (refine wpList_load_row rfl 45 (.tmp 4) rfl (w.heap.size + 1) rfl 45 _ (0, 0) _ hr2.arr' Try.underlying45 rfl HZ.out ?_)
    | (refine wpl_store_st rfl (.tmp 2) (.tmp 18) rfl HZ.out w.heap.size ac0.cells _ rfl rfl hz2 ?_ (hid rfl) (hid rfl) (hid rfl); intro w3 hr3 hg3))
  refine bodyPost_ret (results_cell1 rfl _ _ w.heap.size 45 _ (0, 0) _ (.bool true) rfl rfl hr3.arr' Try.underlying45 rfl HZ.out) rfl ⟨rfl, ?_⟩
  exact ((((Below.refl _ _).alloc (Nat.le_refl _) _).alloc (by simp) _).alloc (by simp; omega) _).trans ((below_grown hg2 (by omega) (by simp; omega)).trans (below_grown hg3 (Nat.le_refl _) (by have := hg2.size; simp at this; omega)))
def ABS (s : List UInt8) : List Value × Bool := if s.length = 9 then ((decA s).cells, true) else (ac0.cells, false)
theorem taka_any (s : ByteArray) (w : World) : Calls Try.prog 67 #[.string s] w (AB w (ABS (sb s))) := by
  unfold ABS
  rw [sb_len]
  by_cases h : s.size = 9
  · rw [if_pos h]; exact taka_yes s w h
  · rw [if_neg h]; exact taka_no s w (bne_iff_ne.2 (by omega))

/-! ### ids -/
def NB (w : World) (r : Nat × Bool) (e : Ending) (w' : World) : Prop := e = .returned (.tuple #[.int .u64 (r.1 : Int), .bool r.2]) ∧ Below w.heap.size w w'
set_option maxHeartbeats 400000 in
theorem taki_no (s : ByteArray) (w : World) (h : ((s.size : Int) != 8) = true) : Calls Try.prog 76 #[.string s] w (NB w (0, false)) := by
  have HP := hid (fun P c W => take_no s P 1 c W (by omega) h)
  have HB := hid (((Below.refl w.heap.size w).alloc (Nat.le_refl _) (.cells #[.int .u64 0] 41)).alloc (by simp) (.cells #[.pointer (some ⟨w.heap.size, 0, none⟩)] 106))
  go_enter Try.func76, Try.ntmps76
  go_wp2_with (go_at_call 72; refine (HP.out _ _ _).mono ?_; rintro e w2 ⟨rfl, rfl⟩)
  go_ret2
  exact ⟨rfl, HB.out⟩
set_option maxHeartbeats 400000 in
theorem taki_yes (s : ByteArray) (w : World) (h : s.size = 8) : Calls Try.prog 76 #[.string s] w (NB w (decI (sb s), true)) := by
  have H8 : Hid (s.size = 8 * 1) := hid h
  have HE : Hid (took [.int .u64 0] (sb s) [0] 1 = [.int .u64 (decI (sb s) : Int)]) := hid rfl
  generalize decI (sb s) = x at *
  have HW := hid (show Row ((w.alloc (.cells #[.int .u64 0] 41)).alloc (.cells #[.pointer (some ⟨w.heap.size, 0, none⟩)] 106)) w.heap.size 41 [.int .u64 0] from Row.alloc (Row.new _ _ _) _)
  have HPT := hid (show Rd ((w.alloc (.cells #[.int .u64 0] 41)).alloc (.cells #[.pointer (some ⟨w.heap.size, 0, none⟩)] 106)) (w.heap.size + 2) (some ⟨w.heap.size + 1, 0, none⟩) (ptrs w.heap.size [0]) from
    Row.rd (e := 106) (alloc2_new _ _ _) (by omega))
  have HB := hid (((Below.refl w.heap.size w).alloc (Nat.le_refl _) (.cells #[.int .u64 0] 41)).alloc (by simp) (.cells #[.pointer (some ⟨w.heap.size, 0, none⟩)] 106))
  clear h
  go_enter Try.func76, Try.ntmps76
  go_wp2_with (go_at_call 72; refine (take_yes s w.heap.size (w.heap.size + 1) 0 1 1 (w.heap.size + 2) 41 [.int .u64 0] [0] _ (by omega) (by omega) rfl H8.out HW.out HPT.out (by omega) (by omega) (by intro o ho; simp at ho; subst ho; simp)).mono ?_; rintro e w2 ⟨rfl, hr2, hg2⟩; rw [HE.out] at hr2; have hc2 := hr2.cell 0; simp only [List.getElem?_cons_zero] at hc2)
  go_ret2
  exact ⟨rfl, HB.out.trans (below_grown hg2 (Nat.le_refl _) (by simp; omega))⟩
def NBS (s : List UInt8) : Nat × Bool := if s.length = 8 then (decI s, true) else (0, false)
theorem taki_any (s : ByteArray) (w : World) : Calls Try.prog 76 #[.string s] w (NB w (NBS (sb s))) := by
  unfold NBS
  rw [sb_len]
  by_cases h : s.size = 8
  · rw [if_pos h]; exact taki_yes s w h
  · rw [if_neg h]; exact taki_no s w (bne_iff_ne.2 (by omega))
end Go.Proofs.Ytbofabmgfkploaa
