/-
  The walk of Unpack's region that reads the header.
-/
import Derived.Test.YtgednnjmcjhfmaaGreatDoorM21
import Derived.Test.YtgednnjmcjhfmaaGreatDoorM18
import Derived.Deep.RegionHeld
import Derived.Deep.CutRange
import Derived.Deep.DeepCutAuto
import Derived.Laws.StructEq
import Derived.BigFrame
import Derived.Laws.IdiomCopy
import Derived.BigRegion
import Derived.Test.YtgednnjmcjhfmaaGreatDoorM02
import Derived.Test.YtgednnjmcjhfmaaGreatDoorM03
import Derived.ChangeSlices
import Derived.Deep.Slices
import Derived.Test.YtgednnjmcjhfmaaGreatDoorM11
namespace Go.Proofs.YtgednnjmcjhfmaaGreatDoor
open Go.RowKit
set_option maxRecDepth 10000
set_option maxHeartbeats 80000000
theorem hcells_size (h : Hd) : (Tryz.prog.info? 122).map (·.size) = some h.cells.size := by
 show _ = some 12
 kernel_rfl
theorem str_ne {a b : ByteArray} (h : a ≠ b) : (a.toList == b.toList) = false := by
 rw [beq_eq_false_iff_ne, ByteArray.toList_eq, ByteArray.toList_eq]
 intro e
 apply h
 rcases a with ⟨a⟩
 rcases b with ⟨b⟩
 simp only [Array.toList_inj] at e
 rw [e]
theorem Row.range {w : World} {g : Nat} {e : TypeId} {cs : List Value} (h : Row w g e cs) : w.rangeAt g 0 cs := fun j v hv => by
 rw [Nat.zero_add, h.cell]
 exact hv
theorem eqF_int9 {P : Program} {W : World} (d : Nat) (xs ys : Array Value) (f : Field) (fs : List Field) (k : IntKind) (a b : Int) (hn : f.name ≠ "_") (hx : (Go.part f.type xs f.offset).run P W = .ok (.int k a) W) (hy : (Go.part f.type ys f.offset).run P W = .ok (.int k b) W) (ht : P.underlying f.type = some (.int k)) :
  (Op.eqFields (d + 1) xs ys (f :: fs)).run P W = if a = b then (Op.eqFields (d + 1) xs ys fs).run P W else .ok false W := by
 simp only [Op.eqFields, if_pos hn, Sem.run_bind, hx, hy, Result.andThen_ok, run_equalIn_int W d f.type k k a b ht]
 by_cases h : a = b
 ·
  subst h
  simp
 ·
  simp [h]
theorem part_int9 {P : Program} {W : World} (t : TypeId) (xs : Array Value) (i : Nat) (v : Value) (ik : IntKind) (ht : P.underlying t = some (.int ik)) (hs : (P.info? t).map (·.size) = some 1) (hv : xs[i]? = some v) : (Go.part t xs i).run P W = .ok v W := by
 obtain ⟨j, hj, hjs⟩ := Option.map_eq_some_iff.1 hs
 simp [Go.part, isAgg, run_underlying ht, sizeOf, typeInfo, hj, hjs, hv]
theorem part_str9 {P : Program} {W : World} (t : TypeId) (xs : Array Value) (i : Nat) (v : Value) (ht : P.underlying t = some .string) (hs : (P.info? t).map (·.size) = some 1) (hv : xs[i]? = some v) : (Go.part t xs i).run P W = .ok v W := by
 obtain ⟨j, hj, hjs⟩ := Option.map_eq_some_iff.1 hs
 simp [Go.part, isAgg, run_underlying ht, sizeOf, typeInfo, hj, hjs, hv]
theorem eqF_strs {P : Program} {W : World} (d : Nat) (xs ys : Array Value) (f : Field) (fs : List Field) (a b : ByteArray) (hn : f.name ≠ "_") (hx : (Go.part f.type xs f.offset).run P W = .ok (.string a) W) (hy : (Go.part f.type ys f.offset).run P W = .ok (.string b) W) (ht : P.underlying f.type = some .string) :
  (Op.eqFields (d + 1) xs ys (f :: fs)).run P W = if a = b then (Op.eqFields (d + 1) xs ys fs).run P W else .ok false W := by
 simp only [Op.eqFields, if_pos hn, Sem.run_bind, hx, hy, Result.andThen_ok, run_equalIn_string W d f.type a b ht]
 by_cases h : a = b
 ·
  subst h
  simp
 ·
  have h2 := str_ne h
  simp [h, h2]
/-- a store of a struct -/
theorem wpl_store_st9 {P : Program} {ops : Array Oper} {rest : List Oper} {o : Oper} {a : Act} {w : World} {Q : Exit → Act → World → Prop} (hgd : o.guard = none) {T : TypeId} (x y : Operand) (ho : o.op = .store T x y) {n : Nat} (hn : (P.info? T).map (·.size) = some n)
  (g : Nat) (cs0 cs : Array Value) (hx : a.eval x = .pointer (some ⟨g, 0, none⟩)) (hy : a.eval y = .agg cs) (hrow : Row w g T cs0.toList)
  (hK : ∀ w', Row w' g T cs.toList → w.grownBy w' (some g) → wpList P ops Q rest (a.put o.dst undef) w')
  (h0 : Hid (cs0.size = n)) (h1 : Hid (cs.size = n)) (hone : Hid (cs.all (·.oneCell') = true)) : wpList P ops Q (o :: rest) a w :=
 wpList_plain hgd fun _ hK' => wp_store_row T x y ho g cs hx hy T cs0 hrow.arr (by rw [hn, h1.out]) (by simp [h0.out, h1.out]) (by simpa using hone.out)
  (hK' _ _ (hK _ (by
   have := setRow_heap w g cs0 cs T (0, 0) hrow.arr
   simpa [Row] using this) (grownBy_setRow w g _)))
/-- an entry -/
structure En where
 view : Int
 opn : Int
 under : Int
 parent : Nat
 client : Int
 session : Int
 request : Int
 oper : Int
 body : ByteArray
def En.cells (e : En) : Array Value := #[.int .i64 e.view, .int .i64 e.opn, .int .i64 e.under, .int .u64 (e.parent : Int), .int .i64 e.client, .int .i64 e.session, .int .i64 e.request, .int .i64 e.oper, .string e.body]
def En.val (e : En) : Value := .agg e.cells
def en0 : En := ⟨0, 0, 0, 0, 0, 0, 0, 0, ⟨#[]⟩⟩
/-- an entry of the machine's -/
def En.fits (e : En) : Prop := (In64 e.view ∧ In64 e.opn ∧ In64 e.under ∧ In64 e.client) ∧ (In64 e.session ∧ In64 e.request ∧ In64 e.oper) ∧ e.parent < 18446744073709551616
/-- a mark -/
structure Mk where
 opn : Int
 view : Int
 sum : Nat
deriving DecidableEq
def Mk.cells (m : Mk) : Array Value := #[.int .i64 m.opn, .int .i64 m.view, .int .u64 (m.sum : Int)]
def Mk.val (m : Mk) : Value := .agg m.cells
def mk0 : Mk := ⟨0, 0, 0⟩
theorem ecells_size (e : En) : (Tryz.prog.info? 31).map (·.size) = some e.cells.size := by
 show _ = some 9
 kernel_rfl
theorem esize : (Tryz.prog.info? 31).map (·.size) = some 9 := by kernel_rfl
theorem mcells_size (m : Mk) : (Tryz.prog.info? 41).map (·.size) = some m.cells.size := by
 show _ = some 3
 kernel_rfl
theorem msize : (Tryz.prog.info? 41).map (·.size) = some 3 := by kernel_rfl
/-! ### held against each other -/
theorem markFields : (Tryz.prog.fieldsOf 41).toList = [{ name := "Op", type := 3, offset := 0, embedded := false, tag := "", pkgPath := "", byteOffset := 0 }, { name := "View", type := 3, offset := 1, embedded := false, tag := "", pkgPath := "", byteOffset := 8 }, { name := "Sum", type := 29, offset := 2, embedded := false, tag := "", pkgPath := "", byteOffset := 16 }] := by kernel_rfl
theorem eqMk (x y : Mk) (W : World) : (Op.equalIn 10000 41 (.agg x.cells) (.agg y.cells)).run Tryz.prog W = .ok (decide (x = y)) W := by
 rw [run_equalIn_struct W 9999 41 x.cells y.cells (by kernel_rfl) (by kernel_rfl), markFields]
 have x0 : x.cells[0]? = some (.int .i64 x.opn) := rfl
 have x1 : x.cells[1]? = some (.int .i64 x.view) := rfl
 have x2 : x.cells[2]? = some (.int .u64 (x.sum : Int)) := rfl
 have y0 : y.cells[0]? = some (.int .i64 y.opn) := rfl
 have y1 : y.cells[1]? = some (.int .i64 y.view) := rfl
 have y2 : y.cells[2]? = some (.int .u64 (y.sum : Int)) := rfl
 generalize x.cells = X at *
 generalize y.cells = Y at *
 rw [eqF_int9 (P := Tryz.prog) (W := W) 9998 X Y { name := "Op", type := 3, offset := 0, embedded := false, tag := "", pkgPath := "", byteOffset := 0 } _ .i64 x.opn y.opn (by simp) (part_int9 3 X 0 _ .i64 Tryz.underlying3 sizeInt x0) (part_int9 3 Y 0 _ .i64 Tryz.underlying3 sizeInt y0) Tryz.underlying3]
 rw [eqF_int9 (P := Tryz.prog) (W := W) 9998 X Y { name := "View", type := 3, offset := 1, embedded := false, tag := "", pkgPath := "", byteOffset := 8 } _ .i64 x.view y.view (by simp) (part_int9 3 X 1 _ .i64 Tryz.underlying3 sizeInt x1) (part_int9 3 Y 1 _ .i64 Tryz.underlying3 sizeInt y1) Tryz.underlying3]
 rw [eqF_int9 (P := Tryz.prog) (W := W) 9998 X Y { name := "Sum", type := 29, offset := 2, embedded := false, tag := "", pkgPath := "", byteOffset := 16 } _ .u64 (x.sum : Int) (y.sum : Int) (by simp) (part_int9 29 X 2 _ .u64 Tryz.underlying29 sizeU64 x2) (part_int9 29 Y 2 _ .u64 Tryz.underlying29 sizeU64 y2) Tryz.underlying29]
 rw [eqF_nil]
 obtain ⟨o1, v1, s1⟩ := x
 obtain ⟨o2, v2, s2⟩ := y
 simp only [Mk.mk.injEq]
 by_cases c0 : o1 = o2
 case neg => simp [c0]
 by_cases c1 : v1 = v2
 case neg => simp [c1]
 by_cases c2 : (s1 : Int) = (s2 : Int)
 case neg => simp [c2]; omega
 simp [*]
 omega
theorem egMk : Tryz.prog.eqGuardType Tryz.prog.depth 41 = false := by kernel_rfl
section
variable {ops : Array Oper} {rest : List Oper} {o : Oper} {a : Act} {w : World} {Q : Exit → Act → World → Prop}
end

/-! ### an entry that may be -/
/-- its numbers and its body are within their bounds -/
def Rt (e : En) : Prop := (1 ≤ e.opn ∧ e.opn ≤ 72057594037927935) ∧ (1 ≤ e.client ∧ e.client ≤ 72057594037927935) ∧ (0 ≤ e.view ∧ e.view ≤ 72057594037927935) ∧ (0 ≤ e.under ∧ e.under ≤ 72057594037927935) ∧
 (0 ≤ e.session ∧ e.session ≤ 72057594037927935) ∧ (0 ≤ e.request ∧ e.request ≤ 72057594037927935) ∧ (1 ≤ e.oper ∧ e.oper ≤ 255) ∧ e.under ≤ e.view ∧ (e.body.size : Int) ≤ 200
instance (e : En) : Decidable (Rt e) := by unfold Rt; infer_instance
/-- what Follows answers -/
def Fol (m : Mk) (e : En) : Prop := Rt e ∧ e.opn - 1 = m.opn ∧ e.under = m.view ∧ e.parent = m.sum
instance (m : Mk) (e : En) : Decidable (Fol m e) := by unfold Fol; infer_instance
/-- what Next answers -/
def nextS (m : Mk) (e : En) : En := ⟨e.view, if 0 ≤ m.opn ∧ m.opn ≤ 72057594037927934 then m.opn + 1 else e.opn, m.view, m.sum, e.client, e.session, e.request, e.oper, e.body⟩
/-- ints as values -/
def ivs (l : List Int) : List Value := l.map fun n => .int .i64 n
/-- all within -/
def wi (lo hi : Int) (l : List Int) : Bool := l.all fun n => decide (lo ≤ n ∧ n ≤ hi)
theorem wi_snoc (lo hi : Int) (l : List Int) (k : Nat) (h : k < l.length) (ht : wi lo hi (l.take k) = true) (hk : lo ≤ l[k] ∧ l[k] ≤ hi) : wi lo hi (l.take (k + 1)) = true := by
 rw [List.take_succ_eq_append_getElem h]
 unfold wi at ht ⊢
 rw [List.all_append, ht]
 simp [hk]
theorem wi_not (lo hi : Int) (l : List Int) (k : Nat) (h : k < l.length) (hk : ¬ (lo ≤ l[k] ∧ l[k] ≤ hi)) : wi lo hi l = false := by
 rw [← Bool.not_eq_true]
 intro e
 have := List.all_eq_true.1 e l[k] (List.getElem_mem h)
 exact hk (by simpa using this)
theorem ivs_len (l : List Int) : (ivs l).length = l.length := by simp [ivs]
theorem within_any (lo hi : Int) (A : Option Addr) (c B : Nat) (l : List Int) (w : World) (hr : Rd w B A (ivs l)) (hl : l.length ≤ 1000) (hpos : 0 < l.length) (hc : l.length ≤ c) :
  Calls Tryz.prog 49 #[.int .i64 lo, .int .i64 hi, .slice A l.length c] w fun e w' => e = .returned (.bool (wi lo hi l)) ∧ w = w' := by
 obtain ⟨g, o, rfl, -, hcell⟩ := hr (by intro e; have := ivs_len l; rw [e] at this; simp at this; omega)
 have HC : Hid (∀ k, (h : k < l.length) → w.cell? ⟨g, o + k, none⟩ = some (.int .i64 l[k])) := hid fun k h => hcell k _ (by simp [ivs, h])
 obtain ⟨n, hn⟩ : ∃ n, n = l.length := ⟨_, rfl⟩
 rw [← hn] at hl hpos hc ⊢
 have HN := hid hn
 clear hr hcell hn
 go_enter Tryz.func49, Tryz.ntmps49
 go_wp2_with fail
 go_loop [11] (fun i => ∃ k : Nat, k ≤ n ∧ i = .int .i64 k ∧ Hid (wi lo hi (l.take k) = true)) (fun i => n - (intOf i).toNat)
 case atStart => exact ⟨0, by omega, rfl, hid rfl⟩
 case round =>
  obtain ⟨k, hk, rfl, hpast⟩ := hrel
  by_cases hlt : k < n
  ·
   have hkl : k < l.length := by rw [← HN.out]; exact hlt
   have hce := HC.out k hkl
   have HS := hid (wi_snoc lo hi l k hkl hpast.out)
   have HX := hid (wi_not lo hi l k hkl)
   generalize l[k] = x at hce HS HX
   by_cases h1 : x < lo
   ·
    go_wp2_with fail
    go_ret
    rw [HX.out (by omega)]
    exact ⟨rfl, rfl⟩
   ·
    by_cases h2 : hi < x
    ·
     go_wp2_with fail
     go_ret
     rw [HX.out (by omega)]
     exact ⟨rfl, rfl⟩
    ·
     go_wp2_with fail
     go_round
     case rel => exact ⟨k + 1, by omega, by go_num, hid (HS.out (by omega))⟩
     case measure => simp [intOf]; omega
  ·
   obtain rfl : k = n := by omega
   go_wp2_with fail
   go_ret
   have hy := hpast.out
   rw [List.take_of_length_le (by rw [HN.out]; exact Nat.le_refl _)] at hy
   rw [hy]
   exact ⟨rfl, rfl⟩
/-- over a list that was just laid -/
theorem wiA (lo hi : Int) (l : List Int) (cs : Array Value) (n : Nat) (hl : l.length ≤ 1000) (hpos : 0 < l.length) (hcs : cs.toList = ivs l) (hn : l.length = n) (W : World) (g : Nat) (hg : g = W.heap.size) :
  Calls Tryz.prog 49 #[.int .i64 lo, .int .i64 hi, .slice (some ⟨g, 0, none⟩) n n] (W.alloc (.cells cs 3)) fun e w' => e = .returned (.bool (wi lo hi l)) ∧ (W.alloc (.cells cs 3)) = w' := by
 subst hg hn
 have := Row.new W 3 cs
 rw [hcs] at this
 exact within_any lo hi _ _ (W.heap.size + 1) l _ (this.rd (by omega)) hl hpos (Nat.le_refl _)
theorem rt_iff (e : En) : Rt e ↔ (wi 1 72057594037927935 [e.opn, e.client] = true ∧ wi 0 72057594037927935 [e.view, e.under, e.session, e.request] = true ∧ wi 1 255 [e.oper] = true ∧ e.under ≤ e.view ∧ (e.body.size : Int) ≤ 200) := by
 unfold Rt wi
 simp
 constructor
 ·
  rintro ⟨⟨a1, a2⟩, ⟨b1, b2⟩, ⟨c1, c2⟩, ⟨d1, d2⟩, ⟨e1, e2⟩, ⟨f1, f2⟩, ⟨g1, g2⟩, h1, h2⟩
  exact ⟨⟨⟨a1, a2⟩, b1, b2⟩, ⟨⟨c1, c2⟩, ⟨d1, d2⟩, ⟨e1, e2⟩, f1, f2⟩, ⟨g1, g2⟩, h1, h2⟩
 ·
  rintro ⟨⟨⟨a1, a2⟩, b1, b2⟩, ⟨⟨c1, c2⟩, ⟨d1, d2⟩, ⟨e1, e2⟩, f1, f2⟩, ⟨g1, g2⟩, h1, h2⟩
  exact ⟨⟨a1, a2⟩, ⟨b1, b2⟩, ⟨c1, c2⟩, ⟨d1, d2⟩, ⟨e1, e2⟩, ⟨f1, f2⟩, ⟨g1, g2⟩, h1, h2⟩
theorem eright_any (e : En) (w : World) : Calls Tryz.prog 25 #[e.val] w (VE w (.bool (decide (Rt e)))) := by
 have hb : decide (Rt e) = (wi 1 72057594037927935 [e.opn, e.client] && wi 0 72057594037927935 [e.view, e.under, e.session, e.request] && wi 1 255 [e.oper] && decide (e.under ≤ e.view) && decide ((e.body.size : Int) ≤ 200)) := by
  rw [Bool.eq_iff_iff, decide_eq_true_iff, rt_iff e]
  simp only [Bool.and_eq_true, decide_eq_true_eq, and_assoc]
 rw [hb]
 clear hb
 have HW1 := hid (wiA 1 72057594037927935 [e.opn, e.client] #[.int .i64 e.opn, .int .i64 e.client] 2 (by simp) (by simp) rfl rfl)
 have HW2 := hid (wiA 0 72057594037927935 [e.view, e.under, e.session, e.request] #[.int .i64 e.view, .int .i64 e.under, .int .i64 e.session, .int .i64 e.request] 4 (by simp) (by simp) rfl rfl)
 have HW3 := hid (wiA 1 255 [e.oper] #[.int .i64 e.oper] 1 (by simp) (by simp) rfl rfl)
 generalize wi 1 72057594037927935 [e.opn, e.client] = b1 at *
 generalize wi 0 72057594037927935 [e.view, e.under, e.session, e.request] = b2 at *
 generalize wi 1 255 [e.oper] = b3 at *
 obtain ⟨view, opn, under, parent, client, session, request, oper, body⟩ := e
 show Calls Tryz.prog 25 #[.agg #[.int .i64 view, .int .i64 opn, .int .i64 under, .int .u64 (parent : Int), .int .i64 client, .int .i64 session, .int .i64 request, .int .i64 oper, .string body]] w (VE w (.bool (b1 && b2 && b3 && decide (under ≤ view) && decide ((body.size : Int) ≤ 200))))
 go_enter Tryz.func25, Tryz.ntmps25
 go_wp2_with (first
  | (go_at_call 49; refine (HW1.out _ _ (by simp)).mono ?_; rintro e w' ⟨rfl, rfl⟩; clear HW1)
  | (go_at_call 49; refine (HW2.out _ _ (by simp)).mono ?_; rintro e w' ⟨rfl, rfl⟩; clear HW2)
  | (go_at_call 49; refine (HW3.out _ _ (by simp)).mono ?_; rintro e w' ⟨rfl, rfl⟩; clear HW3))
 all_goals (go_ret; refine ⟨by simp [*] <;> omega, ?_⟩; repeat' first | exact Below.refl _ _ | refine Below.alloc ?_ (by simp <;> omega) _)
theorem next_yes (view opn under : Int) (parent : Nat) (client session request oper : Int) (body : ByteArray) (mo mv : Int) (ms : Nat) (w : World) (hm1 : 0 ≤ mo) (hm2 : mo ≤ 72057594037927934)
  (HW : Hid (∀ (W : World) (g : Nat), g = W.heap.size → Calls Tryz.prog 49 #[.int .i64 0, .int .i64 72057594037927934, .slice (some ⟨g, 0, none⟩) 1 1] (W.alloc (.cells #[.int .i64 mo] 3)) fun e w' => e = .returned (.bool true) ∧ W.alloc (.cells #[.int .i64 mo] 3) = w'))
  (HCL : Hid (∀ W : World, Calls Tryz.prog 50 #[.string body] W fun e w' => e = .returned (.string body) ∧ Below W.heap.size W w')) :
  Calls Tryz.prog 23 #[.agg #[.int .i64 mo, .int .i64 mv, .int .u64 (ms : Int)], .agg #[.int .i64 view, .int .i64 opn, .int .i64 under, .int .u64 (parent : Int), .int .i64 client, .int .i64 session, .int .i64 request, .int .i64 oper, .string body]] w (VE w (.agg #[.int .i64 view, .int .i64 (mo + 1), .int .i64 mv, .int .u64 (ms : Int), .int .i64 client, .int .i64 session, .int .i64 request, .int .i64 oper, .string body])) := by
 obtain ⟨W5, hW5⟩ : ∃ W5, W5 = ((((w.alloc (.cells #[.int .i64 mo, .int .i64 mv, .int .u64 (ms : Int)] 41)).alloc (.cells #[.int .i64 view, .int .i64 (mo + 1), .int .i64 mv, .int .u64 (ms : Int), .int .i64 client, .int .i64 session, .int .i64 request, .int .i64 oper, .string body] 31)).alloc (.cells #[.int .i64 0, .int .i64 0, .int .i64 0, .int .u64 0, .int .i64 0, .int .i64 0, .int .i64 0, .int .i64 0, .string ⟨#[]⟩] 31)).alloc (.cells #[.int .i64 mo] 3)).drew := ⟨_, rfl⟩
 have HS5 : Hid (W5.heap.size = w.heap.size + 4) := hid (by rw [hW5]; simp [World.drew])
 have HB5 : Hid (Below w.heap.size w W5) := hid (by rw [hW5]; refine Below.drew ?_; repeat' first | exact Below.refl _ _ | refine Below.alloc ?_ (by simp <;> omega) _)
 have HE5 : Hid (Row W5 (w.heap.size + 1) 31 (#[.int .i64 view, .int .i64 (mo + 1), .int .i64 mv, .int .u64 (ms : Int), .int .i64 client, .int .i64 session, .int .i64 request, .int .i64 oper, .string body] : Array Value).toList) := hid (by
  rw [hW5]
  have := (((Row.new (w.alloc (.cells #[.int .i64 mo, .int .i64 mv, .int .u64 (ms : Int)] 41)) 31 #[.int .i64 view, .int .i64 (mo + 1), .int .i64 mv, .int .u64 (ms : Int), .int .i64 client, .int .i64 session, .int .i64 request, .int .i64 oper, .string body]).alloc (.cells #[.int .i64 0, .int .i64 0, .int .i64 0, .int .u64 0, .int .i64 0, .int .i64 0, .int .i64 0, .int .i64 0, .string ⟨#[]⟩] 31)).alloc (.cells #[.int .i64 mo] 3)).drew
  simpa using this)
 have HR5 : Hid (Row W5 (w.heap.size + 1 + 1) 31 (#[.int .i64 0, .int .i64 0, .int .i64 0, .int .u64 0, .int .i64 0, .int .i64 0, .int .i64 0, .int .i64 0, .string ⟨#[]⟩] : Array Value).toList) := hid (by
  rw [hW5]
  have := ((Row.new ((w.alloc (.cells #[.int .i64 mo, .int .i64 mv, .int .u64 (ms : Int)] 41)).alloc (.cells #[.int .i64 view, .int .i64 (mo + 1), .int .i64 mv, .int .u64 (ms : Int), .int .i64 client, .int .i64 session, .int .i64 request, .int .i64 oper, .string body] 31)) 31 #[.int .i64 0, .int .i64 0, .int .i64 0, .int .u64 0, .int .i64 0, .int .i64 0, .int .i64 0, .int .i64 0, .string ⟨#[]⟩]).alloc (.cells #[.int .i64 mo] 3)).drew
  simpa using this)
 have HC5 : Hid (W5.cell? ⟨w.heap.size + 1, 8, none⟩ = some (.string body)) := hid (HE5.out.at_ 8 _ rfl)
 have HZ := hid esize
 have HW5 := hid hW5
 clear hW5
 go_enter Tryz.func23, Tryz.ntmps23
 go_wp2_with (go_at_call 49; refine (HW.out _ _ (by simp)).mono ?_; rintro e w' ⟨rfl, rfl⟩)
 go_region
 rw [← HW5.out]
 have hc5 := HC5.out
 go_wp2_with (first
  | (go_at_call 50; refine (HCL.out _).mono ?_; rintro e w6 ⟨rfl, hb6⟩; have hrE := HE5.out.below hb6 HE5.out.lt; have hrR := HR5.out.below hb6 HR5.out.lt; have hc8 := hrE.at_ 8 _ rfl; have hf8 := hrE.frozen 8; have hrE2 := hrE.set_ 8 (.string body); have hrR2 := hrR.far (p := ⟨w.heap.size + 1, 8, none⟩) (by show w.heap.size + 1 + 1 ≠ w.heap.size + 1; omega) (.string body); have HBB := hid ((HB5.out.trans (hb6.mono HB5.out.size)).setCell (p := ⟨w.heap.size + 1, 8, none⟩) (by show w.heap.size ≤ w.heap.size + 1; omega) (.string body)))
  | (refine wpList_load_row rfl 31 (.tmp 3) rfl (w.heap.size + 1) rfl 31 #[.int .i64 view, .int .i64 (mo + 1), .int .i64 mv, .int .u64 (ms : Int), .int .i64 client, .int .i64 session, .int .i64 request, .int .i64 oper, .string body] (0, 0) _ (Row.arr (cs := #[.int .i64 view, .int .i64 (mo + 1), .int .i64 mv, .int .u64 (ms : Int), .int .i64 client, .int .i64 session, .int .i64 request, .int .i64 oper, .string body]) hrE2) Tryz.underlying31 rfl HZ.out ?_)
  | (refine wpl_store_st9 rfl (.tmp 4) (.tmp 23) rfl HZ.out (w.heap.size + 1 + 1) #[.int .i64 0, .int .i64 0, .int .i64 0, .int .u64 0, .int .i64 0, .int .i64 0, .int .i64 0, .int .i64 0, .string ⟨#[]⟩] #[.int .i64 view, .int .i64 (mo + 1), .int .i64 mv, .int .u64 (ms : Int), .int .i64 client, .int .i64 session, .int .i64 request, .int .i64 oper, .string body] rfl rfl hrR2 ?_ (hid rfl) (hid rfl) (hid (by simp [Value.oneCell'])); intro w7 hr7 hg7; replace HBB := hid (HBB.out.trans (below_grown hg7 (by omega) HBB.out.size))))
 refine bodyPost_ret (v := .agg #[.int .i64 view, .int .i64 (mo + 1), .int .i64 mv, .int .u64 (ms : Int), .int .i64 client, .int .i64 session, .int .i64 request, .int .i64 oper, .string body])
  (results_cell_row rfl _ _ (w.heap.size + 1 + 1) 31 _ (0, 0) _ rfl (Row.arr hr7) Tryz.underlying31 rfl HZ.out) rfl ⟨rfl, HBB.out⟩
theorem next_no (view opn under : Int) (parent : Nat) (client session request oper : Int) (body : ByteArray) (mo mv : Int) (ms : Nat) (w : World) 
  (HW : Hid (∀ (W : World) (g : Nat), g = W.heap.size → Calls Tryz.prog 49 #[.int .i64 0, .int .i64 72057594037927934, .slice (some ⟨g, 0, none⟩) 1 1] (W.alloc (.cells #[.int .i64 mo] 3)) fun e w' => e = .returned (.bool false) ∧ W.alloc (.cells #[.int .i64 mo] 3) = w'))
  (HCL : Hid (∀ W : World, Calls Tryz.prog 50 #[.string body] W fun e w' => e = .returned (.string body) ∧ Below W.heap.size W w')) :
  Calls Tryz.prog 23 #[.agg #[.int .i64 mo, .int .i64 mv, .int .u64 (ms : Int)], .agg #[.int .i64 view, .int .i64 opn, .int .i64 under, .int .u64 (parent : Int), .int .i64 client, .int .i64 session, .int .i64 request, .int .i64 oper, .string body]] w (VE w (.agg #[.int .i64 view, .int .i64 opn, .int .i64 mv, .int .u64 (ms : Int), .int .i64 client, .int .i64 session, .int .i64 request, .int .i64 oper, .string body])) := by
 obtain ⟨W5, hW5⟩ : ∃ W5, W5 = ((((w.alloc (.cells #[.int .i64 mo, .int .i64 mv, .int .u64 (ms : Int)] 41)).alloc (.cells #[.int .i64 view, .int .i64 opn, .int .i64 mv, .int .u64 (ms : Int), .int .i64 client, .int .i64 session, .int .i64 request, .int .i64 oper, .string body] 31)).alloc (.cells #[.int .i64 0, .int .i64 0, .int .i64 0, .int .u64 0, .int .i64 0, .int .i64 0, .int .i64 0, .int .i64 0, .string ⟨#[]⟩] 31)).alloc (.cells #[.int .i64 mo] 3)).drew := ⟨_, rfl⟩
 have HS5 : Hid (W5.heap.size = w.heap.size + 4) := hid (by rw [hW5]; simp [World.drew])
 have HB5 : Hid (Below w.heap.size w W5) := hid (by rw [hW5]; refine Below.drew ?_; repeat' first | exact Below.refl _ _ | refine Below.alloc ?_ (by simp <;> omega) _)
 have HE5 : Hid (Row W5 (w.heap.size + 1) 31 (#[.int .i64 view, .int .i64 opn, .int .i64 mv, .int .u64 (ms : Int), .int .i64 client, .int .i64 session, .int .i64 request, .int .i64 oper, .string body] : Array Value).toList) := hid (by
  rw [hW5]
  have := (((Row.new (w.alloc (.cells #[.int .i64 mo, .int .i64 mv, .int .u64 (ms : Int)] 41)) 31 #[.int .i64 view, .int .i64 opn, .int .i64 mv, .int .u64 (ms : Int), .int .i64 client, .int .i64 session, .int .i64 request, .int .i64 oper, .string body]).alloc (.cells #[.int .i64 0, .int .i64 0, .int .i64 0, .int .u64 0, .int .i64 0, .int .i64 0, .int .i64 0, .int .i64 0, .string ⟨#[]⟩] 31)).alloc (.cells #[.int .i64 mo] 3)).drew
  simpa using this)
 have HR5 : Hid (Row W5 (w.heap.size + 1 + 1) 31 (#[.int .i64 0, .int .i64 0, .int .i64 0, .int .u64 0, .int .i64 0, .int .i64 0, .int .i64 0, .int .i64 0, .string ⟨#[]⟩] : Array Value).toList) := hid (by
  rw [hW5]
  have := ((Row.new ((w.alloc (.cells #[.int .i64 mo, .int .i64 mv, .int .u64 (ms : Int)] 41)).alloc (.cells #[.int .i64 view, .int .i64 opn, .int .i64 mv, .int .u64 (ms : Int), .int .i64 client, .int .i64 session, .int .i64 request, .int .i64 oper, .string body] 31)) 31 #[.int .i64 0, .int .i64 0, .int .i64 0, .int .u64 0, .int .i64 0, .int .i64 0, .int .i64 0, .int .i64 0, .string ⟨#[]⟩]).alloc (.cells #[.int .i64 mo] 3)).drew
  simpa using this)
 have HC5 : Hid (W5.cell? ⟨w.heap.size + 1, 8, none⟩ = some (.string body)) := hid (HE5.out.at_ 8 _ rfl)
 have HZ := hid esize
 have HW5 := hid hW5
 clear hW5
 go_enter Tryz.func23, Tryz.ntmps23
 go_wp2_with (go_at_call 49; refine (HW.out _ _ (by simp)).mono ?_; rintro e w' ⟨rfl, rfl⟩)
 go_region
 rw [← HW5.out]
 have hc5 := HC5.out
 go_wp2_with (first
  | (go_at_call 50; refine (HCL.out _).mono ?_; rintro e w6 ⟨rfl, hb6⟩; have hrE := HE5.out.below hb6 HE5.out.lt; have hrR := HR5.out.below hb6 HR5.out.lt; have hc8 := hrE.at_ 8 _ rfl; have hf8 := hrE.frozen 8; have hrE2 := hrE.set_ 8 (.string body); have hrR2 := hrR.far (p := ⟨w.heap.size + 1, 8, none⟩) (by show w.heap.size + 1 + 1 ≠ w.heap.size + 1; omega) (.string body); have HBB := hid ((HB5.out.trans (hb6.mono HB5.out.size)).setCell (p := ⟨w.heap.size + 1, 8, none⟩) (by show w.heap.size ≤ w.heap.size + 1; omega) (.string body)))
  | (refine wpList_load_row rfl 31 (.tmp 3) rfl (w.heap.size + 1) rfl 31 #[.int .i64 view, .int .i64 opn, .int .i64 mv, .int .u64 (ms : Int), .int .i64 client, .int .i64 session, .int .i64 request, .int .i64 oper, .string body] (0, 0) _ (Row.arr (cs := #[.int .i64 view, .int .i64 opn, .int .i64 mv, .int .u64 (ms : Int), .int .i64 client, .int .i64 session, .int .i64 request, .int .i64 oper, .string body]) hrE2) Tryz.underlying31 rfl HZ.out ?_)
  | (refine wpl_store_st9 rfl (.tmp 4) (.tmp 23) rfl HZ.out (w.heap.size + 1 + 1) #[.int .i64 0, .int .i64 0, .int .i64 0, .int .u64 0, .int .i64 0, .int .i64 0, .int .i64 0, .int .i64 0, .string ⟨#[]⟩] #[.int .i64 view, .int .i64 opn, .int .i64 mv, .int .u64 (ms : Int), .int .i64 client, .int .i64 session, .int .i64 request, .int .i64 oper, .string body] rfl rfl hrR2 ?_ (hid rfl) (hid rfl) (hid (by simp [Value.oneCell'])); intro w7 hr7 hg7; replace HBB := hid (HBB.out.trans (below_grown hg7 (by omega) HBB.out.size))))
 refine bodyPost_ret (v := .agg #[.int .i64 view, .int .i64 opn, .int .i64 mv, .int .u64 (ms : Int), .int .i64 client, .int .i64 session, .int .i64 request, .int .i64 oper, .string body])
  (results_cell_row rfl _ _ (w.heap.size + 1 + 1) 31 _ (0, 0) _ rfl (Row.arr hr7) Tryz.underlying31 rfl HZ.out) rfl ⟨rfl, HBB.out⟩
theorem next_any (m : Mk) (e : En) (w : World) (hs : e.body.size ≤ 281474976710656) : Calls Tryz.prog 23 #[m.val, e.val] w (VE w (nextS m e).val) := by
 have HW := hid (wiA 0 72057594037927934 [m.opn] #[.int .i64 m.opn] 1 (by simp) (by simp) rfl rfl)
 have HCL := hid (fun W => clone_any e.body W hs)
 obtain ⟨view, opn, under, parent, client, session, request, oper, body⟩ := e
 obtain ⟨mo, mv, ms⟩ := m
 by_cases hm : 0 ≤ mo ∧ mo ≤ 72057594037927934
 ·
  have hwi : wi 0 72057594037927934 [mo] = true := by simp [wi, hm]
  have hn : nextS ⟨mo, mv, ms⟩ ⟨view, opn, under, parent, client, session, request, oper, body⟩ = ⟨view, mo + 1, mv, ms, client, session, request, oper, body⟩ := by unfold nextS; rw [if_pos hm]
  rw [hn]
  exact next_yes view opn under parent client session request oper body mo mv ms w hm.1 hm.2 (hid (by rw [← hwi]; exact HW.out)) HCL
 ·
  have hwi : wi 0 72057594037927934 [mo] = false := by simp [wi]; omega
  have hn : nextS ⟨mo, mv, ms⟩ ⟨view, opn, under, parent, client, session, request, oper, body⟩ = ⟨view, opn, mv, ms, client, session, request, oper, body⟩ := by unfold nextS; rw [if_neg hm]
  rw [hn]
  exact next_no view opn under parent client session request oper body mo mv ms w (hid (by rw [← hwi]; exact HW.out)) HCL
theorem efol_yes (view opn under : Int) (parent : Nat) (client session request oper : Int) (body : ByteArray) (mo mv : Int) (ms : Nat) (w : World) (h1 : 1 ≤ opn) (h2 : opn ≤ 72057594037927935)
  (HR : Hid (∀ W : World, Calls Tryz.prog 25 #[.agg #[.int .i64 view, .int .i64 opn, .int .i64 under, .int .u64 (parent : Int), .int .i64 client, .int .i64 session, .int .i64 request, .int .i64 oper, .string body]] W (VE W (.bool true)))) :
  Calls Tryz.prog 28 #[.agg #[.int .i64 mo, .int .i64 mv, .int .u64 (ms : Int)], .agg #[.int .i64 view, .int .i64 opn, .int .i64 under, .int .u64 (parent : Int), .int .i64 client, .int .i64 session, .int .i64 request, .int .i64 oper, .string body]] w (VE w (.bool (decide (opn - 1 = mo) && decide (under = mv) && decide ((parent : Int) = ms)))) := by
 obtain ⟨W0, hW0⟩ : ∃ W0, W0 = (w.alloc (.cells #[.int .i64 mo, .int .i64 mv, .int .u64 (ms : Int)] 41)).alloc (.cells #[.int .i64 view, .int .i64 opn, .int .i64 under, .int .u64 (parent : Int), .int .i64 client, .int .i64 session, .int .i64 request, .int .i64 oper, .string body] 31) := ⟨_, rfl⟩
 have HB0 : Hid (Below w.heap.size w W0) := hid (by rw [hW0]; repeat' first | exact Below.refl _ _ | refine Below.alloc ?_ (by simp <;> omega) _)
 have HM0 : Hid (Row W0 w.heap.size 41 (#[.int .i64 mo, .int .i64 mv, .int .u64 (ms : Int)] : Array Value).toList) := hid (by rw [hW0]; exact (Row.new _ _ _).alloc _)
 have HE0 : Hid (Row W0 (w.heap.size + 1) 31 (#[.int .i64 view, .int .i64 opn, .int .i64 under, .int .u64 (parent : Int), .int .i64 client, .int .i64 session, .int .i64 request, .int .i64 oper, .string body] : Array Value).toList) := hid (by
  rw [hW0]
  have := Row.new (w.alloc (.cells #[.int .i64 mo, .int .i64 mv, .int .u64 (ms : Int)] 41)) 31 #[.int .i64 view, .int .i64 opn, .int .i64 under, .int .u64 (parent : Int), .int .i64 client, .int .i64 session, .int .i64 request, .int .i64 oper, .string body]
  simpa using this)
 have HZ := hid esize
 have HW0 := hid hW0
 clear hW0
 go_enter Tryz.func28, Tryz.ntmps28
 go_wp2_with (first
  | (rw [← HW0.out]; refine wpList_load_row rfl 31 (.tmp 3) rfl (w.heap.size + 1) rfl 31 #[.int .i64 view, .int .i64 opn, .int .i64 under, .int .u64 (parent : Int), .int .i64 client, .int .i64 session, .int .i64 request, .int .i64 oper, .string body] (0, 0) _ (Row.arr (cs := #[.int .i64 view, .int .i64 opn, .int .i64 under, .int .u64 (parent : Int), .int .i64 client, .int .i64 session, .int .i64 request, .int .i64 oper, .string body]) HE0.out) Tryz.underlying31 rfl HZ.out ?_)
  | (go_at_call 25; refine (HR.out _).mono ?_; rintro e w1 ⟨rfl, hb1⟩; have hm := HM0.out.below hb1 HM0.out.lt; have he := HE0.out.below hb1 HE0.out.lt; have m0 := hm.at_ 0 _ rfl; have m1 := hm.at_ 1 _ rfl; have m2 := hm.at_ 2 _ rfl; have e1 := he.at_ 1 _ rfl; have e2 := he.at_ 2 _ rfl; have e3 := he.at_ 3 _ rfl; have HB1 := hid (HB0.out.trans (hb1.mono HB0.out.size)); clear hb1 hm he))
 all_goals (go_ret; refine ⟨by simp [*] <;> first | rfl | exact Bool.beq_eq_decide_eq _ _ | (rw [Bool.beq_eq_decide_eq]; exact decide_eq_decide.2 ⟨Eq.symm, Eq.symm⟩) | (intros; omega), HB1.out⟩)
theorem efol_no (view opn under : Int) (parent : Nat) (client session request oper : Int) (body : ByteArray) (mo mv : Int) (ms : Nat) (w : World) 
  (HR : Hid (∀ W : World, Calls Tryz.prog 25 #[.agg #[.int .i64 view, .int .i64 opn, .int .i64 under, .int .u64 (parent : Int), .int .i64 client, .int .i64 session, .int .i64 request, .int .i64 oper, .string body]] W (VE W (.bool false)))) :
  Calls Tryz.prog 28 #[.agg #[.int .i64 mo, .int .i64 mv, .int .u64 (ms : Int)], .agg #[.int .i64 view, .int .i64 opn, .int .i64 under, .int .u64 (parent : Int), .int .i64 client, .int .i64 session, .int .i64 request, .int .i64 oper, .string body]] w (VE w (.bool false)) := by
 obtain ⟨W0, hW0⟩ : ∃ W0, W0 = (w.alloc (.cells #[.int .i64 mo, .int .i64 mv, .int .u64 (ms : Int)] 41)).alloc (.cells #[.int .i64 view, .int .i64 opn, .int .i64 under, .int .u64 (parent : Int), .int .i64 client, .int .i64 session, .int .i64 request, .int .i64 oper, .string body] 31) := ⟨_, rfl⟩
 have HB0 : Hid (Below w.heap.size w W0) := hid (by rw [hW0]; repeat' first | exact Below.refl _ _ | refine Below.alloc ?_ (by simp <;> omega) _)
 have HM0 : Hid (Row W0 w.heap.size 41 (#[.int .i64 mo, .int .i64 mv, .int .u64 (ms : Int)] : Array Value).toList) := hid (by rw [hW0]; exact (Row.new _ _ _).alloc _)
 have HE0 : Hid (Row W0 (w.heap.size + 1) 31 (#[.int .i64 view, .int .i64 opn, .int .i64 under, .int .u64 (parent : Int), .int .i64 client, .int .i64 session, .int .i64 request, .int .i64 oper, .string body] : Array Value).toList) := hid (by
  rw [hW0]
  have := Row.new (w.alloc (.cells #[.int .i64 mo, .int .i64 mv, .int .u64 (ms : Int)] 41)) 31 #[.int .i64 view, .int .i64 opn, .int .i64 under, .int .u64 (parent : Int), .int .i64 client, .int .i64 session, .int .i64 request, .int .i64 oper, .string body]
  simpa using this)
 have HZ := hid esize
 have HW0 := hid hW0
 clear hW0
 go_enter Tryz.func28, Tryz.ntmps28
 go_wp2_with (first
  | (rw [← HW0.out]; refine wpList_load_row rfl 31 (.tmp 3) rfl (w.heap.size + 1) rfl 31 #[.int .i64 view, .int .i64 opn, .int .i64 under, .int .u64 (parent : Int), .int .i64 client, .int .i64 session, .int .i64 request, .int .i64 oper, .string body] (0, 0) _ (Row.arr (cs := #[.int .i64 view, .int .i64 opn, .int .i64 under, .int .u64 (parent : Int), .int .i64 client, .int .i64 session, .int .i64 request, .int .i64 oper, .string body]) HE0.out) Tryz.underlying31 rfl HZ.out ?_)
  | (go_at_call 25; refine (HR.out _).mono ?_; rintro e w1 ⟨rfl, hb1⟩; have hm := HM0.out.below hb1 HM0.out.lt; have he := HE0.out.below hb1 HE0.out.lt; have m0 := hm.at_ 0 _ rfl; have m1 := hm.at_ 1 _ rfl; have m2 := hm.at_ 2 _ rfl; have e1 := he.at_ 1 _ rfl; have e2 := he.at_ 2 _ rfl; have e3 := he.at_ 3 _ rfl; have HB1 := hid (HB0.out.trans (hb1.mono HB0.out.size)); clear hb1 hm he))
 all_goals (go_ret; refine ⟨by simp [*], HB1.out⟩)
theorem efol_any (m : Mk) (e : En) (w : World) : Calls Tryz.prog 28 #[m.val, e.val] w (VE w (.bool (decide (Fol m e)))) := by
 have HR := hid (fun W => eright_any e W)
 have hb : decide (Fol m e) = (decide (Rt e) && (decide (e.opn - 1 = m.opn) && decide (e.under = m.view) && decide ((e.parent : Int) = m.sum))) := by
  rw [Bool.eq_iff_iff, decide_eq_true_iff]
  unfold Fol
  simp only [Bool.and_eq_true, decide_eq_true_eq, and_assoc]
  constructor <;> exact fun ⟨a, b, c, d⟩ => ⟨a, b, c, by omega⟩
 rw [hb]
 clear hb
 obtain ⟨mo, mv, ms⟩ := m
 by_cases h : Rt e
 ·
  obtain ⟨⟨h1, h2⟩, _⟩ := id h
  rw [decide_eq_true h, Bool.true_and]
  rw [decide_eq_true h] at HR
  obtain ⟨view, opn, under, parent, client, session, request, oper, body⟩ := e
  exact efol_yes view opn under parent client session request oper body mo mv ms w h1 h2 HR
 ·
  rw [decide_eq_false h, Bool.false_and]
  rw [decide_eq_false h] at HR
  obtain ⟨view, opn, under, parent, client, session, request, oper, body⟩ := e
  exact efol_no view opn under parent client session request oper body mo mv ms w HR
/-- an entry's header; an entry of a header and a body -/
def hof (e : En) : Hd := ⟨255, 0, e.oper, e.view, e.opn, 0, e.client, e.session, e.request, e.under, 0, e.parent⟩
theorem hof_any (e : En) (w : World) : Calls Tryz.prog 81 #[e.val] w (VE w (hof e).val) := by
 obtain ⟨view, opn, under, parent, client, session, request, oper, body⟩ := e
 show Calls Tryz.prog 81 #[.agg #[.int .i64 view, .int .i64 opn, .int .i64 under, .int .u64 (parent : Int), .int .i64 client, .int .i64 session, .int .i64 request, .int .i64 oper, .string body]] w (VE w (.agg #[.int .i64 255, .int .i64 0, .int .i64 oper, .int .i64 view, .int .i64 opn, .int .i64 0, .int .i64 client, .int .i64 session, .int .i64 request, .int .i64 under, .int .i64 0, .int .u64 (parent : Int)]))
 go_enter Tryz.func81, Tryz.ntmps81
 go_wp2_with fail
 refine bodyPost_ret (v := .agg #[.int .i64 255, .int .i64 0, .int .i64 oper, .int .i64 view, .int .i64 opn, .int .i64 0, .int .i64 client, .int .i64 session, .int .i64 request, .int .i64 under, .int .i64 0, .int .u64 (parent : Int)])
  (results_cell_row rfl _ _ (w.heap.size + 1) 122 _ (0, 0) _ rfl (alloc2_new _ _ _) Tryz.underlying122 rfl (by kernel_rfl)) rfl ⟨rfl, ((Below.refl _ _).alloc (Nat.le_refl _) _).alloc (by simp) _⟩
def f9 (n l : Int) : Bool := decide (l ≤ n ∧ n ≤ 72057594037927935)
theorem fits9_any (n l : Int) (b : Bool) (w : World) (h : b = f9 n l) : Calls Tryz.prog 56 #[.int .i64 n, .int .i64 l] w fun e w' => e = .returned (.bool b) ∧ w = w' := by
 subst h
 unfold f9
 by_cases h0 : l ≤ n
 ·
  by_cases h1 : n ≤ 72057594037927935
  ·
   go_enter Tryz.func56, Tryz.ntmps56
   go_wp2
   go_ret
   exact ⟨by simp [h0, h1], rfl⟩
  ·
   go_enter Tryz.func56, Tryz.ntmps56
   go_wp2
   go_ret
   exact ⟨by simp [h1], rfl⟩
 ·
  have h2 : decide (l ≤ n) = false := by simp; omega
  go_enter Tryz.func56, Tryz.ntmps56
  go_wp2
  go_ret
  exact ⟨by first | (simp; done) | (simp; omega), rfl⟩
theorem rt9_iff (e : En) : decide (Rt e) = (f9 e.opn 1 && f9 e.client 1 && f9 e.view 0 && f9 e.under 0 && f9 e.session 0 && f9 e.request 0 && decide (e.under ≤ e.view) && decide (1 ≤ e.oper) && decide (e.oper ≤ 255) && decide ((e.body.size : Int) ≤ 200)) := by
 rw [Bool.eq_iff_iff, decide_eq_true_iff]
 unfold Rt f9
 simp only [Bool.and_eq_true, decide_eq_true_eq]
 constructor
 ·
  rintro ⟨h1, h2, h3, h4, h5, h6, ⟨h7, h8⟩, h9, h10⟩
  exact ⟨⟨⟨⟨⟨⟨⟨⟨⟨h1, h2⟩, h3⟩, h4⟩, h5⟩, h6⟩, h9⟩, h7⟩, h8⟩, h10⟩
 ·
  rintro ⟨⟨⟨⟨⟨⟨⟨⟨⟨h1, h2⟩, h3⟩, h4⟩, h5⟩, h6⟩, h9⟩, h7⟩, h8⟩, h10⟩
  exact ⟨h1, h2, h3, h4, h5, h6, ⟨h7, h8⟩, h9, h10⟩
theorem rright9_any (e : En) (w : World) : Calls Tryz.prog 31 #[e.val] w (VE w (.bool (decide (Rt e)))) := by
 rw [rt9_iff]
 obtain ⟨view, opn, under, parent, client, session, request, oper, body⟩ := e
 show Calls Tryz.prog 31 #[.agg #[.int .i64 view, .int .i64 opn, .int .i64 under, .int .u64 (parent : Int), .int .i64 client, .int .i64 session, .int .i64 request, .int .i64 oper, .string body]] w (VE w (.bool (f9 opn 1 && f9 client 1 && f9 view 0 && f9 under 0 && f9 session 0 && f9 request 0 && decide (under ≤ view) && decide (1 ≤ oper) && decide (oper ≤ 255) && decide ((body.size : Int) ≤ 200))))
 have H1 := hid (fun W => fits9_any opn 1 _ W rfl)
 have H2 := hid (fun W => fits9_any client 1 _ W rfl)
 have H3 := hid (fun W => fits9_any view 0 _ W rfl)
 have H4 := hid (fun W => fits9_any under 0 _ W rfl)
 have H5 := hid (fun W => fits9_any session 0 _ W rfl)
 have H6 := hid (fun W => fits9_any request 0 _ W rfl)
 generalize f9 opn 1 = b1 at *
 generalize f9 client 1 = b2 at *
 generalize f9 view 0 = b3 at *
 generalize f9 under 0 = b4 at *
 generalize f9 session 0 = b5 at *
 generalize f9 request 0 = b6 at *
 go_enter Tryz.func31, Tryz.ntmps31
 go_wp2_with (first
  | (go_at_call 56; refine (H1.out _).mono ?_; rintro e w' ⟨rfl, rfl⟩; clear H1)
  | (go_at_call 56; refine (H2.out _).mono ?_; rintro e w' ⟨rfl, rfl⟩; clear H2)
  | (go_at_call 56; refine (H3.out _).mono ?_; rintro e w' ⟨rfl, rfl⟩; clear H3)
  | (go_at_call 56; refine (H4.out _).mono ?_; rintro e w' ⟨rfl, rfl⟩; clear H4)
  | (go_at_call 56; refine (H5.out _).mono ?_; rintro e w' ⟨rfl, rfl⟩; clear H5)
  | (go_at_call 56; refine (H6.out _).mono ?_; rintro e w' ⟨rfl, rfl⟩; clear H6))
 all_goals (go_ret; refine ⟨by first | (simp [*]; done) | (cases b6 <;> simp_all; done) | (cases b6 <;> simp_all <;> omega), ?_⟩; exact (Below.refl _ _).alloc (Nat.le_refl _) _)
theorem rfol_yes (view opn under : Int) (parent : Nat) (client session request oper : Int) (body : ByteArray) (mo mv : Int) (ms : Nat) (w : World) (h1 : 1 ≤ opn) (h2 : opn ≤ 72057594037927935)
  (HR : Hid (∀ W : World, Calls Tryz.prog 31 #[.agg #[.int .i64 view, .int .i64 opn, .int .i64 under, .int .u64 (parent : Int), .int .i64 client, .int .i64 session, .int .i64 request, .int .i64 oper, .string body]] W (VE W (.bool true)))) :
  Calls Tryz.prog 32 #[.agg #[.int .i64 mo, .int .i64 mv, .int .u64 (ms : Int)], .agg #[.int .i64 view, .int .i64 opn, .int .i64 under, .int .u64 (parent : Int), .int .i64 client, .int .i64 session, .int .i64 request, .int .i64 oper, .string body]] w (VE w (.bool (decide (opn - 1 = mo) && decide (under = mv) && decide ((parent : Int) = ms)))) := by
 obtain ⟨W0, hW0⟩ : ∃ W0, W0 = (w.alloc (.cells #[.int .i64 mo, .int .i64 mv, .int .u64 (ms : Int)] 41)).alloc (.cells #[.int .i64 view, .int .i64 opn, .int .i64 under, .int .u64 (parent : Int), .int .i64 client, .int .i64 session, .int .i64 request, .int .i64 oper, .string body] 31) := ⟨_, rfl⟩
 have HB0 : Hid (Below w.heap.size w W0) := hid (by rw [hW0]; repeat' first | exact Below.refl _ _ | refine Below.alloc ?_ (by simp <;> omega) _)
 have HM0 : Hid (Row W0 w.heap.size 41 (#[.int .i64 mo, .int .i64 mv, .int .u64 (ms : Int)] : Array Value).toList) := hid (by rw [hW0]; exact (Row.new _ _ _).alloc _)
 have HE0 : Hid (Row W0 (w.heap.size + 1) 31 (#[.int .i64 view, .int .i64 opn, .int .i64 under, .int .u64 (parent : Int), .int .i64 client, .int .i64 session, .int .i64 request, .int .i64 oper, .string body] : Array Value).toList) := hid (by
  rw [hW0]
  have := Row.new (w.alloc (.cells #[.int .i64 mo, .int .i64 mv, .int .u64 (ms : Int)] 41)) 31 #[.int .i64 view, .int .i64 opn, .int .i64 under, .int .u64 (parent : Int), .int .i64 client, .int .i64 session, .int .i64 request, .int .i64 oper, .string body]
  simpa using this)
 have HZ := hid esize
 have HW0 := hid hW0
 clear hW0
 go_enter Tryz.func32, Tryz.ntmps32
 go_wp2_with (first
  | (rw [← HW0.out]; refine wpList_load_row rfl 31 (.tmp 3) rfl (w.heap.size + 1) rfl 31 #[.int .i64 view, .int .i64 opn, .int .i64 under, .int .u64 (parent : Int), .int .i64 client, .int .i64 session, .int .i64 request, .int .i64 oper, .string body] (0, 0) _ (Row.arr (cs := #[.int .i64 view, .int .i64 opn, .int .i64 under, .int .u64 (parent : Int), .int .i64 client, .int .i64 session, .int .i64 request, .int .i64 oper, .string body]) HE0.out) Tryz.underlying31 rfl HZ.out ?_)
  | (go_at_call 31; refine (HR.out _).mono ?_; rintro e w1 ⟨rfl, hb1⟩; have hm := HM0.out.below hb1 HM0.out.lt; have he := HE0.out.below hb1 HE0.out.lt; have m0 := hm.at_ 0 _ rfl; have m1 := hm.at_ 1 _ rfl; have m2 := hm.at_ 2 _ rfl; have e1 := he.at_ 1 _ rfl; have e2 := he.at_ 2 _ rfl; have e3 := he.at_ 3 _ rfl; have HB1 := hid (HB0.out.trans (hb1.mono HB0.out.size)); clear hb1 hm he))
 all_goals (go_ret; refine ⟨by simp [*] <;> first | rfl | exact Bool.beq_eq_decide_eq _ _ | (rw [Bool.beq_eq_decide_eq]; exact decide_eq_decide.2 ⟨Eq.symm, Eq.symm⟩) | (intros; omega), HB1.out⟩)
theorem rfol_no (view opn under : Int) (parent : Nat) (client session request oper : Int) (body : ByteArray) (mo mv : Int) (ms : Nat) (w : World) 
  (HR : Hid (∀ W : World, Calls Tryz.prog 31 #[.agg #[.int .i64 view, .int .i64 opn, .int .i64 under, .int .u64 (parent : Int), .int .i64 client, .int .i64 session, .int .i64 request, .int .i64 oper, .string body]] W (VE W (.bool false)))) :
  Calls Tryz.prog 32 #[.agg #[.int .i64 mo, .int .i64 mv, .int .u64 (ms : Int)], .agg #[.int .i64 view, .int .i64 opn, .int .i64 under, .int .u64 (parent : Int), .int .i64 client, .int .i64 session, .int .i64 request, .int .i64 oper, .string body]] w (VE w (.bool false)) := by
 obtain ⟨W0, hW0⟩ : ∃ W0, W0 = (w.alloc (.cells #[.int .i64 mo, .int .i64 mv, .int .u64 (ms : Int)] 41)).alloc (.cells #[.int .i64 view, .int .i64 opn, .int .i64 under, .int .u64 (parent : Int), .int .i64 client, .int .i64 session, .int .i64 request, .int .i64 oper, .string body] 31) := ⟨_, rfl⟩
 have HB0 : Hid (Below w.heap.size w W0) := hid (by rw [hW0]; repeat' first | exact Below.refl _ _ | refine Below.alloc ?_ (by simp <;> omega) _)
 have HM0 : Hid (Row W0 w.heap.size 41 (#[.int .i64 mo, .int .i64 mv, .int .u64 (ms : Int)] : Array Value).toList) := hid (by rw [hW0]; exact (Row.new _ _ _).alloc _)
 have HE0 : Hid (Row W0 (w.heap.size + 1) 31 (#[.int .i64 view, .int .i64 opn, .int .i64 under, .int .u64 (parent : Int), .int .i64 client, .int .i64 session, .int .i64 request, .int .i64 oper, .string body] : Array Value).toList) := hid (by
  rw [hW0]
  have := Row.new (w.alloc (.cells #[.int .i64 mo, .int .i64 mv, .int .u64 (ms : Int)] 41)) 31 #[.int .i64 view, .int .i64 opn, .int .i64 under, .int .u64 (parent : Int), .int .i64 client, .int .i64 session, .int .i64 request, .int .i64 oper, .string body]
  simpa using this)
 have HZ := hid esize
 have HW0 := hid hW0
 clear hW0
 go_enter Tryz.func32, Tryz.ntmps32
 go_wp2_with (first
  | (rw [← HW0.out]; refine wpList_load_row rfl 31 (.tmp 3) rfl (w.heap.size + 1) rfl 31 #[.int .i64 view, .int .i64 opn, .int .i64 under, .int .u64 (parent : Int), .int .i64 client, .int .i64 session, .int .i64 request, .int .i64 oper, .string body] (0, 0) _ (Row.arr (cs := #[.int .i64 view, .int .i64 opn, .int .i64 under, .int .u64 (parent : Int), .int .i64 client, .int .i64 session, .int .i64 request, .int .i64 oper, .string body]) HE0.out) Tryz.underlying31 rfl HZ.out ?_)
  | (go_at_call 31; refine (HR.out _).mono ?_; rintro e w1 ⟨rfl, hb1⟩; have hm := HM0.out.below hb1 HM0.out.lt; have he := HE0.out.below hb1 HE0.out.lt; have m0 := hm.at_ 0 _ rfl; have m1 := hm.at_ 1 _ rfl; have m2 := hm.at_ 2 _ rfl; have e1 := he.at_ 1 _ rfl; have e2 := he.at_ 2 _ rfl; have e3 := he.at_ 3 _ rfl; have HB1 := hid (HB0.out.trans (hb1.mono HB0.out.size)); clear hb1 hm he))
 all_goals (go_ret; refine ⟨by simp [*], HB1.out⟩)
theorem rfol_any (m : Mk) (e : En) (w : World) : Calls Tryz.prog 32 #[m.val, e.val] w (VE w (.bool (decide (Fol m e)))) := by
 have HR := hid (fun W => rright9_any e W)
 have hb : decide (Fol m e) = (decide (Rt e) && (decide (e.opn - 1 = m.opn) && decide (e.under = m.view) && decide ((e.parent : Int) = m.sum))) := by
  rw [Bool.eq_iff_iff, decide_eq_true_iff]
  unfold Fol
  simp only [Bool.and_eq_true, decide_eq_true_eq, and_assoc]
  constructor <;> exact fun ⟨a, b, c, d⟩ => ⟨a, b, c, by omega⟩
 rw [hb]
 clear hb
 obtain ⟨mo, mv, ms⟩ := m
 by_cases h : Rt e
 ·
  obtain ⟨⟨h1, h2⟩, _⟩ := id h
  rw [decide_eq_true h, Bool.true_and]
  rw [decide_eq_true h] at HR
  obtain ⟨view, opn, under, parent, client, session, request, oper, body⟩ := e
  exact rfol_yes view opn under parent client session request oper body mo mv ms w h1 h2 HR
 ·
  rw [decide_eq_false h, Bool.false_and]
  rw [decide_eq_false h] at HR
  obtain ⟨view, opn, under, parent, client, session, request, oper, body⟩ := e
  exact rfol_no view opn under parent client session request oper body mo mv ms w HR
/-- what Pack answers -/
def packE (e : En) : List UInt8 × Int := if Rt e then packS (hof e) (sb e.body) else ([], 4)
theorem epack_no (E : Array Value) (w : World) (hE : (Tryz.prog.info? 31).map (·.size) = some E.size)
  (HR : Hid (∀ W : World, Calls Tryz.prog 25 #[.agg E] W (VE W (.bool false)))) :
  Calls Tryz.prog 51 #[.agg E] w (SN w ([], 4)) := by
 have HE := hid hE
 have HB := hid ((Below.refl w.heap.size w).alloc (Nat.le_refl _) (.cells E 31))
 have HRW : Hid (Row (w.alloc (.cells E 31)) w.heap.size 31 E.toList) := hid (Row.new _ _ _)
 clear hE
 go_enter Tryz.func51, Tryz.ntmps51
 go_wp2_with (first
  | (refine wpList_load_row rfl 31 (.tmp 1) rfl w.heap.size rfl 31 E (0, 0) _ HRW.out.arr Tryz.underlying31 rfl HE.out ?_)
  | (go_at_call 25; refine (HR.out _).mono ?_; rintro e w1 ⟨rfl, hb1⟩))
 go_ret2
 exact ⟨rfl, HB.out.trans (hb1.mono HB.out.size)⟩
theorem epack_yes (view opn under : Int) (parent : Nat) (client session request oper : Int) (body : ByteArray) (T : ByteArray) (f : Int) (w : World) (hf : Fd w)
  (HR : Hid (∀ W : World, Calls Tryz.prog 25 #[.agg #[.int .i64 view, .int .i64 opn, .int .i64 under, .int .u64 (parent : Int), .int .i64 client, .int .i64 session, .int .i64 request, .int .i64 oper, .string body]] W (VE W (.bool true))))
  (HH : Hid (∀ W : World, Calls Tryz.prog 81 #[.agg #[.int .i64 view, .int .i64 opn, .int .i64 under, .int .u64 (parent : Int), .int .i64 client, .int .i64 session, .int .i64 request, .int .i64 oper, .string body]] W (VE W (.agg #[.int .i64 255, .int .i64 0, .int .i64 oper, .int .i64 view, .int .i64 opn, .int .i64 0, .int .i64 client, .int .i64 session, .int .i64 request, .int .i64 under, .int .i64 0, .int .u64 (parent : Int)]))))
  (HP : Hid (∀ W : World, Fd W → Calls Tryz.prog 80 #[.agg #[.int .i64 255, .int .i64 0, .int .i64 oper, .int .i64 view, .int .i64 opn, .int .i64 0, .int .i64 client, .int .i64 session, .int .i64 request, .int .i64 under, .int .i64 0, .int .u64 (parent : Int)], .string body] W fun x W' => x = .returned (.tuple #[.string T, .int .i64 f]) ∧ Below W.heap.size W W')) :
  Calls Tryz.prog 51 #[.agg #[.int .i64 view, .int .i64 opn, .int .i64 under, .int .u64 (parent : Int), .int .i64 client, .int .i64 session, .int .i64 request, .int .i64 oper, .string body]] w fun x W' => x = .returned (.tuple #[.string T, .int .i64 f]) ∧ Below w.heap.size w W' := by
 have HZ := hid esize
 have HF := hid hf
 have HB := hid ((Below.refl w.heap.size w).alloc (Nat.le_refl _) (.cells #[.int .i64 view, .int .i64 opn, .int .i64 under, .int .u64 (parent : Int), .int .i64 client, .int .i64 session, .int .i64 request, .int .i64 oper, .string body] 31))
 have HRW : Hid (Row (w.alloc (.cells #[.int .i64 view, .int .i64 opn, .int .i64 under, .int .u64 (parent : Int), .int .i64 client, .int .i64 session, .int .i64 request, .int .i64 oper, .string body] 31)) w.heap.size 31 (#[.int .i64 view, .int .i64 opn, .int .i64 under, .int .u64 (parent : Int), .int .i64 client, .int .i64 session, .int .i64 request, .int .i64 oper, .string body] : Array Value).toList) := hid (Row.new _ _ _)
 clear hf
 go_enter Tryz.func51, Tryz.ntmps51
 go_wp2_with (go_at_call 25; refine (HR.out _).mono ?_; rintro e w1 ⟨rfl, hb1⟩; have HB1 := hid (HB.out.trans (hb1.mono HB.out.size)); have HE1 := hid (HRW.out.below hb1 HRW.out.lt); clear hb1)
 have HF1 := hid (HF.out.below HB1.out HF.out.1)
 refine wp_region_held_drew (S := fun W => Below w1.heap.size w1 W) (by kernel_rfl) ((Below.refl _ _).drew) (fun hH => ?_)
 refine tk_ (i := 0) (v := .agg #[.int .i64 view, .int .i64 opn, .int .i64 under, .int .u64 (parent : Int), .int .i64 client, .int .i64 session, .int .i64 request, .int .i64 oper, .string body]) rfl ?_ hH ?_
 ·
  refine yieldsIf_load_mid ?_ 31 (.tmp 1) ?_ w.heap.size 0 ?_ (Array.toList #[.int .i64 view, .int .i64 opn, .int .i64 under, .int .u64 (parent : Int), .int .i64 client, .int .i64 session, .int .i64 request, .int .i64 oper, .string body]) _ (fun W hW => Row.range (HE1.out.below hW HE1.out.lt)) Tryz.underlying31 rfl HZ.out
  all_goals kernel_rfl
 simp only [Act.put]
 refine tk_ (i := 2) (v := .pointer (some ⟨w.heap.size, 8, none⟩)) rfl (Or.inl ⟨by rfl, fun w' hw' => by clear hw'; go_simp⟩) hH ?_
 simp only [Act.put]
 refine tk_ (i := 3) (v := .string body) rfl (Or.inl ⟨by rfl, fun w' hw' => by have h := (HE1.out.below hw' HE1.out.lt).at_ 8 _ rfl; clear hw'; go_simp⟩) hH ?_
 simp only [Act.put]
 refine rd1 (i := 1) (by kernel_rfl) rfl (fun K hK => ?_)
 go_simp
 go_at_call 81
 refine (HH.out _).mono ?_
 rintro e w2 ⟨rfl, hb2⟩
 go_wp2_with fail
 refine hK.out _ _ (hH.trans (Below.mono hb2 hH.size)) (fun hH => ?_)
 clear hK K
 try simp only [Act.put]
 refine rd1 (i := 4) (by kernel_rfl) rfl (fun K hK => ?_)
 go_simp
 go_at_call 80
 refine (HP.out _ (HF1.out.below hH HF1.out.1)).mono ?_
 rintro e w3 ⟨rfl, hb3⟩
 go_wp2_with fail
 refine hK.out _ _ (hH.trans (Below.mono hb3 hH.size)) (fun hH => ?_)
 clear hK K
 try simp only [Act.put]
 refine tk_ (i := 5) (v := .string T) rfl (Or.inl ⟨by rfl, fun w' hw' => by clear hw'; go_simp⟩) hH ?_
 simp only [Act.put]
 refine tk_ (i := 6) (v := .int .i64 f) rfl (Or.inl ⟨by rfl, fun w' hw' => by clear hw'; go_simp⟩) hH ?_
 simp only [Act.put]
 refine rd1 (i := 7) (by kernel_rfl) rfl (fun K hK => ?_)
 go_simp
 refine hK.out _ _ (hH) (fun hH => ?_)
 clear hK K
 try simp only [Act.put]
 refine rd1 (i := 8) (by kernel_rfl) rfl (fun K hK => ?_)
 go_simp
 refine hK.out _ _ (hH) (fun hH => ?_)
 clear hK K
 try simp only [Act.put]
 refine wpAnyH_done (by kernel_rfl) ?_ _
 try simp only [Act.put]
 go_wp2_with fail
 go_ret2
 exact ⟨rfl, HB1.out.trans (hH.mono HB1.out.size)⟩
theorem packS_rt {e : En} (he : e.fits) (h : Rt e) : Fits (hof e).nums ∧ (hof e).fits := by
 obtain ⟨⟨a1, a2, a3, a4⟩, ⟨b1, b2, b3⟩, hp⟩ := he
 obtain ⟨h1, h2, h3, h4, h5, h6, h7, h8, h9⟩ := h
 have hh : (hof e).fits := ⟨⟨⟨by show (-9223372036854775808 : Int) ≤ 255; omega, by show (255 : Int) ≤ _; omega⟩, ⟨by show (-9223372036854775808 : Int) ≤ 0; omega, by show (0 : Int) ≤ _; omega⟩, b3, a1, a2, ⟨by show (-9223372036854775808 : Int) ≤ 0; omega, by show (0 : Int) ≤ _; omega⟩⟩, ⟨a4, b1, b2, a3, ⟨by show (-9223372036854775808 : Int) ≤ 0; omega, by show (0 : Int) ≤ _; omega⟩⟩, hp⟩
 refine ⟨?_, hh⟩
 have hr := right_fits (hof e) hh
 have : rightS (hof e) = true := by
  unfold rightS sm ft hof
  simp only [Bool.and_eq_true, decide_eq_true_eq]
  exact ⟨⟨⟨⟨⟨⟨⟨⟨⟨⟨⟨by omega, by omega⟩, by omega, by omega⟩, by omega, by omega⟩, h3⟩, by omega, by omega⟩, by omega, by omega⟩, by omega, by omega⟩, h5⟩, h6⟩, h4⟩, by omega, by omega⟩
 rw [this] at hr
 exact of_decide_eq_true hr.symm
theorem epack_any (e : En) (w : World) (hf : Fd w) : Calls Tryz.prog 51 #[e.val] w (SN w (packE e)) := by
 have HR := hid (fun W => eright_any e W)
 unfold packE
 by_cases h : Rt e
 ·
  rw [if_pos h]
  rw [decide_eq_true h] at HR
  have HH := hid (fun W => hof_any e W)
  have HP := hid (fun W hW => pack_any9 (hof e) e.body W hW)
  obtain ⟨r, hr⟩ : ∃ r, r = packS (hof e) (sb e.body) := ⟨_, rfl⟩
  rw [← hr] at HP ⊢
  obtain ⟨view, opn, under, parent, client, session, request, oper, body⟩ := e
  exact epack_yes view opn under parent client session request oper body ⟨r.1.toArray⟩ r.2 w hf HR HH HP
 ·
  rw [if_neg h]
  rw [decide_eq_false h] at HR
  exact epack_no e.cells w (ecells_size e) HR
theorem hsize : (Tryz.prog.info? 122).map (·.size) = some 12 := by kernel_rfl
theorem packE_ok {e : En} {s : List UInt8} (h : packE e = (s, 0)) : Rt e ∧ packS (hof e) (sb e.body) = (s, 0) := by
 unfold packE at h
 by_cases h1 : Rt e
 ·
  rw [if_pos h1] at h
  exact ⟨h1, h⟩
 ·
  rw [if_neg h1] at h
  simp at h
theorem packE_len {e : En} {s : List UInt8} (h : packE e = (s, 0)) : s.length = 128 + e.body.size ∧ (e.body.size : Int) ≤ 200 := by
 obtain ⟨h1, h2⟩ := packE_ok h
 obtain ⟨_, _, h3⟩ := packS_ok h2
 rw [h3, List.length_append, headB_len, sb_len]
 exact ⟨rfl, h1.2.2.2.2.2.2.2.2⟩
end Go.Proofs.YtgednnjmcjhfmaaGreatDoor
namespace Go.Proofs.YtgednnjmcjhfmaaGreatDoor
open Go.ChangeShapes Go.WideShapes Go.ChangeAt Go.RowKit
set_option maxRecDepth 10000
set_option maxHeartbeats 80000000
section
variable {H : Type} {enc : TypeId × Value → H} {W : World}
theorem cellsIntE : Tryz.prog.cellsOf 3 = 1 := by kernel_rfl
theorem cellsU64E : Tryz.prog.cellsOf 29 = 1 := by kernel_rfl
theorem cellsStrE : Tryz.prog.cellsOf 9 = 1 := by kernel_rfl
theorem int_of_wfE {n : Int} (h : (Lit.int .i64 n).wf = true) : In64 n := i64_bounds h
theorem cellsEn : Tryz.prog.cellsOf 31 = 9 := by kernel_rfl
end
/-- an entry's cells -/
def En.cl (e : En) : List Value := e.cells.toList
theorem En.cl_len (e : En) : e.cl.length = 9 := rfl
section
variable {H : Type} {enc : TypeId × Value → H} {W : World}
theorem open_en_cells {fuel : Nat} {cs : List Value} {x : DataW H × List MemPlace} (h : DataW.trod enc Tryz.prog W 0 (fun _ => true) true fuel 31 cs = some x) :
  ∃ X : En, cs = X.cl ∧ X.fits ∧ X.body.size ∈ x.1.weights Tryz.prog 31 := by
 obtain ⟨xs, n, _, hx0, hlen, hxs, hf⟩ := DataW.trod_struct Tryz.underlying31 h
 rw [cellsEn] at hlen
 match cs, hlen with
 | [v0, v1, v2, v3, v4, v5, v6, v7, v8], _ =>
  have hx : ∀ i, i < 9 → ∃ y, xs[i]? = some y := fun i hi => ⟨_, List.getElem?_eq_getElem (by rw [hxs]; exact hi)⟩
  obtain ⟨y0, e0⟩ := hx 0 (by omega)
  have h0 := (hf 0 _ rfl).trans e0
  have t0 : DataW.trod enc Tryz.prog W 0 (fun _ => true) true n 3 [v0] = some y0 := by rw [← h0]; show _ = DataW.trod _ _ _ _ _ _ _ _ (List.take (Tryz.prog.cellsOf 3) _); rw [cellsIntE]; rfl
  obtain ⟨z0, q0, _, w0⟩ := DataW.trod_int Tryz.underlying3 t0
  obtain ⟨y1, e1⟩ := hx 1 (by omega)
  have h1 := (hf 1 _ rfl).trans e1
  have t1 : DataW.trod enc Tryz.prog W 0 (fun _ => true) true n 3 [v1] = some y1 := by rw [← h1]; show _ = DataW.trod _ _ _ _ _ _ _ _ (List.take (Tryz.prog.cellsOf 3) _); rw [cellsIntE]; rfl
  obtain ⟨z1, q1, _, w1⟩ := DataW.trod_int Tryz.underlying3 t1
  obtain ⟨y2, e2⟩ := hx 2 (by omega)
  have h2 := (hf 2 _ rfl).trans e2
  have t2 : DataW.trod enc Tryz.prog W 0 (fun _ => true) true n 3 [v2] = some y2 := by rw [← h2]; show _ = DataW.trod _ _ _ _ _ _ _ _ (List.take (Tryz.prog.cellsOf 3) _); rw [cellsIntE]; rfl
  obtain ⟨z2, q2, _, w2⟩ := DataW.trod_int Tryz.underlying3 t2
  obtain ⟨y3, e3⟩ := hx 3 (by omega)
  have h3 := (hf 3 _ rfl).trans e3
  have t3 : DataW.trod enc Tryz.prog W 0 (fun _ => true) true n 29 [v3] = some y3 := by rw [← h3]; show _ = DataW.trod _ _ _ _ _ _ _ _ (List.take (Tryz.prog.cellsOf 29) _); rw [cellsU64E]; rfl
  obtain ⟨z3, q3, _, w3⟩ := DataW.trod_int Tryz.underlying29 t3
  obtain ⟨y4, e4⟩ := hx 4 (by omega)
  have h4 := (hf 4 _ rfl).trans e4
  have t4 : DataW.trod enc Tryz.prog W 0 (fun _ => true) true n 3 [v4] = some y4 := by rw [← h4]; show _ = DataW.trod _ _ _ _ _ _ _ _ (List.take (Tryz.prog.cellsOf 3) _); rw [cellsIntE]; rfl
  obtain ⟨z4, q4, _, w4⟩ := DataW.trod_int Tryz.underlying3 t4
  obtain ⟨y5, e5⟩ := hx 5 (by omega)
  have h5 := (hf 5 _ rfl).trans e5
  have t5 : DataW.trod enc Tryz.prog W 0 (fun _ => true) true n 3 [v5] = some y5 := by rw [← h5]; show _ = DataW.trod _ _ _ _ _ _ _ _ (List.take (Tryz.prog.cellsOf 3) _); rw [cellsIntE]; rfl
  obtain ⟨z5, q5, _, w5⟩ := DataW.trod_int Tryz.underlying3 t5
  obtain ⟨y6, e6⟩ := hx 6 (by omega)
  have h6 := (hf 6 _ rfl).trans e6
  have t6 : DataW.trod enc Tryz.prog W 0 (fun _ => true) true n 3 [v6] = some y6 := by rw [← h6]; show _ = DataW.trod _ _ _ _ _ _ _ _ (List.take (Tryz.prog.cellsOf 3) _); rw [cellsIntE]; rfl
  obtain ⟨z6, q6, _, w6⟩ := DataW.trod_int Tryz.underlying3 t6
  obtain ⟨y7, e7⟩ := hx 7 (by omega)
  have h7 := (hf 7 _ rfl).trans e7
  have t7 : DataW.trod enc Tryz.prog W 0 (fun _ => true) true n 3 [v7] = some y7 := by rw [← h7]; show _ = DataW.trod _ _ _ _ _ _ _ _ (List.take (Tryz.prog.cellsOf 3) _); rw [cellsIntE]; rfl
  obtain ⟨z7, q7, _, w7⟩ := DataW.trod_int Tryz.underlying3 t7
  obtain ⟨y8, e8⟩ := hx 8 (by omega)
  have h8 := (hf 8 _ rfl).trans e8
  have t8 : DataW.trod enc Tryz.prog W 0 (fun _ => true) true n 9 [v8] = some y8 := by rw [← h8]; show _ = DataW.trod _ _ _ _ _ _ _ _ (List.take (Tryz.prog.cellsOf 9) _); rw [cellsStrE]; rfl
  obtain ⟨z8, q8, r8, w8⟩ := DataW.trod_string Tryz.underlying9 t8
  obtain ⟨m, rfl, hm⟩ := u64_bounds w3
  cases q0; cases q1; cases q2; cases q3; cases q4; cases q5; cases q6; cases q7; cases q8
  have hw : z8.size ∈ x.1.weights Tryz.prog 31 := by
   rw [hx0]
   unfold DataW.weights
   simp only [Tryz.underlying31]
   exact DataW.weights_mem_each (j := 8) (t := 9) (d := .lit (.string z8.data.toList)) rfl (by rw [List.getElem?_map, e8, r8]; rfl) _ (by simp [DataW.weights])
  exact ⟨⟨z0, z1, z2, m, z4, z5, z6, z7, z8⟩, rfl, ⟨⟨int_of_wfE w0, int_of_wfE w1, int_of_wfE w2, int_of_wfE w4⟩, ⟨int_of_wfE w5, int_of_wfE w6, int_of_wfE w7⟩, hm⟩, hw⟩
theorem weights_all {P : Program} {e : TypeId} {d : DataW H} {n : Nat} (hn : n ∈ d.weights P e) : ∀ l : List (DataW H), d ∈ l → n ∈ DataW.weightsAll P e l
 | [], h => by simp at h
 | c :: l, h => by
  unfold DataW.weightsAll
  rcases List.mem_cons.1 h with rfl | h
  ·
   exact List.mem_append_left _ hn
  ·
   exact List.mem_append_right _ (weights_all hn l h)
/-- an argument []Entry -/
theorem open_entries {v : Value} {d : DataW H} {ps : List MemPlace} {b0 : Nat} {r : Reach} (hval : Value.okWide Tryz.prog W r b0 22 v) (h : DataW.Trod enc Tryz.prog W 0 (fun _ => true) true 22 v d ps) (hwt : ∀ n ∈ d.weights Tryz.prog 22, n ≤ reachBytes) :
  ∃ (A : Option Addr) (n c : Nat) (XS : List En), v = .slice A n c ∧ n = XS.length ∧ n ≤ c ∧ n ≤ 9223372036854775807 ∧ Rd W W.heap.size A (rows En.cl XS) ∧ ∀ X ∈ XS, X.fits ∧ X.body.size ≤ 140737488355328 := by
 obtain ⟨a0, len, cap, rfl⟩ := okWide_slice Tryz.underlying22 hval
 obtain ⟨fuel, hf⟩ := h
 rcases Go.Deep.open_slice Tryz.underlying22 hf with ⟨hcs, _⟩ | ⟨a, len', cap', m, n, D, Pl, hcs, _, hl, hm, hmm, hxx, hel⟩
 ·
  simp [Value.cells] at hcs
  obtain ⟨rfl, rfl, rfl⟩ := hcs
  exact ⟨none, 0, 0, [], rfl, rfl, by omega, by omega, Rd.nil, by simp⟩
 ·
  simp [Value.cells] at hcs
  obtain ⟨rfl, rfl, rfl⟩ := hcs
  simp only [if_true] at hmm
  subst hmm
  have hone : ∀ i, i < len → ∃ X : En, (X.fits ∧ X.body.size ≤ 140737488355328) ∧ ∀ j v, X.cl[j]? = some v → W.cell? ((a.add (i * 9)).add j) = some v := by
   intro i hi
   obtain ⟨cs', h1, h2⟩ := hel i (by omega)
   rw [cellsEn] at h1
   obtain ⟨X, rfl, h3, h4⟩ := open_en_cells h2
   have h5 : X.body.size ∈ d.weights Tryz.prog 22 := by
    rw [show d = _ from congrArg Prod.fst hxx]
    unfold DataW.weights
    simp only [Tryz.underlying22]
    exact List.mem_cons_of_mem _ (List.mem_append_left _ (weights_all h4 _ (List.mem_map.2 ⟨i, List.mem_range.2 hi, rfl⟩)))
   have h6 := hwt _ h5
   simp only [reachBytes] at h6
   exact ⟨X, ⟨h3, by omega⟩, (cells_get h1).2⟩
  have : Inhabited En := ⟨en0⟩
  obtain ⟨f, hfX⟩ := Go.Deep.choose_lt hone
  refine ⟨some a, len, _, (List.range len).map f, rfl, by simp, hl, by unfold maxLen at hm; omega, ?_, ?_⟩
  rotate_left
  ·
   intro X hX
   obtain ⟨i, hi, rfl⟩ := List.mem_map.1 hX
   exact (hfX i (List.mem_range.1 hi)).1
  have hR : ∀ r ∈ ((List.range len).map f).map En.cl, r.length = 9 := by
   intro r hr
   obtain ⟨X, _, rfl⟩ := List.mem_map.1 hr
   rfl
  intro hne
  have hpos : 0 < len := by
   rcases Nat.eq_zero_or_pos len with h0 | h0
   ·
    subst h0; simp [rows] at hne
   ·
    exact h0
  have h00 := (hfX 0 hpos).2 0 _ rfl
  obtain ⟨b, off, spot⟩ := a
  have hspot : spot = none := by
   have := World.cell?_spot h00
   simpa [Addr.add] using this
  subst hspot
  have hlt := World.block_lt_of_cell? W _ h00
  refine ⟨b, off, rfl, by simpa [Addr.add] using hlt, fun j u hu => ?_⟩
  have e : j = j / 9 * 9 + j % 9 := by omega
  have hm7 : j % 9 < 9 := Nat.mod_lt _ (by omega)
  unfold rows at hu
  rw [e, flat_get 9 _ _ _ hR hm7] at hu
  cases hq : (((List.range len).map f).map En.cl)[j / 9]? with
  | none => rw [hq] at hu; cases hu
  | some rr =>
   rw [hq] at hu
   obtain ⟨hlt7, rfl⟩ := List.getElem?_eq_some_iff.1 hq
   have hlt8 : j / 9 < len := by simpa using hlt7
   simp only [Option.bind_some, List.getElem_map, List.getElem_range] at hu
   have := (hfX (j / 9) hlt8).2 (j % 9) u hu
   rw [add_lit, add_lit, Nat.add_assoc, ← e] at this
   exact this
end
end Go.Proofs.YtgednnjmcjhfmaaGreatDoor
