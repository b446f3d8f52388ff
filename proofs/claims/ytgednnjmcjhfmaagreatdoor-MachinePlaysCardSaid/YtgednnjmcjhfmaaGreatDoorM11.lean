/-
  Small words of three layers, for all of them.
-/
import Derived.Test.YtgednnjmcjhfmaaGreatDoorM10
import Derived.Test.YtgednnjmcjhfmaaGreatDoorM03
import Derived.Test.YtgednnjmcjhfmaaGreatDoorM07
import Derived.ChangeSlices
import Derived.Deep.Slices
import Derived.Deep.RegionHeld
import Derived.Laws.StructEq
import Derived.Deep.QuietTactic
import Derived.BigQuiet
import Derived.BigRegion
import Derived.Test.YtgednnjmcjhfmaaGreatDoorM06
import Derived.Test.YtgednnjmcjhfmaaGreatDoorM02
import Derived.Test.YtgednnjmcjhfmaaGreatDoorM09
import Derived.Test.YtgednnjmcjhfmaaGreatDoorM04
import Derived.Test.YtgednnjmcjhfmaaGreatDoorM05
import Derived.Test.YtgednnjmcjhfmaaGreatDoorM01
import Derived.Deep.MidRow
import Derived.Deep.AppendLies
namespace Go.Proofs.YtgednnjmcjhfmaaGreatDoor
open Go.ChangeShapes Go.WideShapes Go.ChangeAt Go.RowKit
set_option maxRecDepth 10000
set_option maxHeartbeats 80000000
theorem cellsInt : Tryz.prog.cellsOf 3 = 1 := by kernel_rfl
theorem cellsU64 : Tryz.prog.cellsOf 29 = 1 := by kernel_rfl
theorem cells_get {w : World} {a : Addr} {n : Nat} {cs : List Value} (h : w.cells? 0 a n = some cs) : cs.length = n ∧ ∀ j v, cs[j]? = some v → w.cell? (a.add j) = some v := by
 unfold World.cells? at h
 rw [if_pos (Nat.zero_le _)] at h
 refine ⟨by simpa using mapM_some_length h, fun j v hv => ?_⟩
 have hl : cs.length = n := by simpa using mapM_some_length h
 have hj : j < n := by rw [← hl]; exact (List.getElem?_eq_some_iff.1 hv).1
 have := mapM_some_get h j j (by simp [hj])
 rw [this, hv]
theorem eqF_int {P : Program} {W : World} (d : Nat) (xs ys : Array Value) (f : Field) (fs : List Field) (k : IntKind) (a b : Int) (hn : f.name ≠ "_") (hx : (Go.part f.type xs f.offset).run P W = .ok (.int k a) W) (hy : (Go.part f.type ys f.offset).run P W = .ok (.int k b) W) (ht : P.underlying f.type = some (.int k)) :
  (Op.eqFields (d + 1) xs ys (f :: fs)).run P W = if a = b then (Op.eqFields (d + 1) xs ys fs).run P W else .ok false W := by
 simp only [Op.eqFields, if_pos hn, Sem.run_bind, hx, hy, Result.andThen_ok, run_equalIn_int W d f.type k k a b ht]
 by_cases h : a = b
 ·
  subst h
  simp
 ·
  simp [h]
theorem eqF_nil {P : Program} {W : World} (d : Nat) (xs ys : Array Value) : (Op.eqFields d xs ys []).run P W = .ok true W := by simp [Op.eqFields]
theorem part_int {P : Program} {W : World} (t : TypeId) (xs : Array Value) (i : Nat) (v : Value) (ik : IntKind) (ht : P.underlying t = some (.int ik)) (hs : (P.info? t).map (·.size) = some 1) (hv : xs[i]? = some v) : (Go.part t xs i).run P W = .ok v W := by
 obtain ⟨j, hj, hjs⟩ := Option.map_eq_some_iff.1 hs
 simp [Go.part, isAgg, run_underlying ht, sizeOf, typeInfo, hj, hjs, hv]
theorem sizeInt : (Tryz.prog.info? 3).map (·.size) = some 1 := by kernel_rfl
theorem sizeU64 : (Tryz.prog.info? 29).map (·.size) = some 1 := by kernel_rfl
theorem sizeStr : (Tryz.prog.info? 9).map (·.size) = some 1 := by kernel_rfl
theorem results_cell2 {P : Program} {fn : Func} {p t u : Tmp} {ty : TypeId} (h : fn.results = #[.cell p ty, .tmp t, .tmp u]) (tmps : Array Value) (w : World) (g : Nat) (e : TypeId) (cs : Array Value) (fr : Nat × Nat) (d : TypeDesc) (x y : Value)
  (hx : tmps.getD t undef = x) (hy : tmps.getD u undef = y) (hp : tmps.getD p undef = .pointer (some ⟨g, 0, none⟩)) (hg : w.heap[g]? = some (.cells cs e fr))
  (hu : P.underlying ty = some d) (hd : (match d with | .struct _ | .array _ _ => true | _ => false) = true) (hi : (P.info? ty).map (·.size) = some cs.size) :
  (results fn tmps).run P w = .ok (.tuple #[.agg cs, x, y]) w := by
 subst hx hy
 have hp' : tmps[p]?.getD undef = .pointer (some ⟨g, 0, none⟩) := by simpa using hp
 simp [results, h, hp', asAddr, run_loadVar_row w g e ty cs fr d hg hu hd hi]
/-- a load under a guard that says yes -/
theorem wpl_load_want {P : Program} {ops : Array Oper} {rest : List Oper} {o : Oper} {a : Act} {w : World} {Q : Exit → Act → World → Prop} (hw : Region.wanted o (yielded ops a.tmps) = true) (ty : TypeId) (x : Operand) (ho : o.op = .load ty x)
  (g : Nat) (hx : a.eval x = .pointer (some ⟨g, 0, none⟩)) (t : TypeId) (cs : Array Value) (fr : Nat × Nat) (d : TypeDesc) (hg : w.heap[g]? = some (.cells cs t fr))
  (hu : P.underlying ty = some d) (hd : (match d with | .struct _ | .array _ _ => true | _ => false) = true) (hi : (P.info? ty).map (·.size) = some cs.size)
  (h : wpList P ops Q rest (a.put o.dst (.agg cs)) w) : wpList P ops Q (o :: rest) a w :=
 BigFrame.wpList_want hw fun _ hK => wp_load_row ty x ho g hx t cs fr d hg hu hd hi (hK _ _ h)
/-- a list, in new memory -/
def LS {α : Type} (C : α → List Value) (w : World) (l : List α) (e : Ending) (w' : World) : Prop :=
 ∃ A c, e = .returned (.slice A l.length c) ∧ l.length ≤ c ∧ Rd w' w'.heap.size A (rows C l) ∧ Below w.heap.size w w' ∧ NewA w A
/-- []T{x}, x a value of many cells, as a step of the walk -/
theorem wpl_slice1 {P : Program} {ops : Array Oper} {rest : List Oper} {o : Oper} {a : Act} {w : World} {Q : Exit → Act → World → Prop} (hgd : o.guard = none) (t e : TypeId) (x : Operand) (ho : o.op = .buildSlice t 1 #[(0, x)])
  (ie : TypeInfo) (z : Value) (size : Nat) (hu : P.underlying t = some (.slice e)) (hie : P.info? e = some ie) (hz : ie.zero = some z) (hs : ie.size = size) (hpos : 0 < size) (hsmall : size ≤ 16777216)
  (cs : List Value) (hx : a.eval x = .agg cs.toArray) (hl : cs.length = size)
  (h : wpList P ops Q rest (a.put o.dst (.slice (some ⟨w.heap.size, 0, none⟩) 1 1)) (w.alloc (.cells cs.toArray e))) : wpList P ops Q (o :: rest) a w :=
 wpList_plain hgd fun _ hK => wp_slice1 t e x ho ie z size hu hie hz hs hpos hsmall cs hx hl (hK _ _ h)
theorem rows1 {α : Type} (C : α → List Value) (x : α) : rows C [x] = C x := by simp [rows]
theorem below_drewN {B : Nat} {w w' : World} (h : Below B w w') (n : Nat) : Below B w (w'.drewN n) := ⟨h.os, h.tape, h.output, h.size, h.block⟩
/-- the world under one name -/
theorem name_wp {P : Program} {c : Code} {Q : Exit → Act → World → Prop} {a : Act} {W : World} (h : ∀ w3, w3 = W → Code.wp P c Q a w3) : Code.wp P c Q a W := h W rfl
theorem ne_nat {a b : Nat} (h : a ≠ b) : ((a : Int) == (b : Int)) = false := beq_eq_false_iff_ne.2 (by omega)
theorem range_of {α : Type} {C : α → List Value} {w : World} {B g o m : Nat} {l : List α} (h : Rd w B (some ⟨g, o, none⟩) (rows C l)) (hC : ∀ x, (C x).length = m) {k : Nat} (hk : k < l.length) : w.rangeAt g (o + k * m) (C l[k]) := h.range hC k hk
theorem shape_of {α : Type} {C : α → List Value} {w : World} {B m : Nat} {A : Option Addr} {l : List α} (h : Rd w B A (rows C l)) (hC : ∀ x, (C x).length = m) (hm : 0 < m) (hl : 0 < l.length) : ∃ g o, A = some ⟨g, o, none⟩ := by
 obtain ⟨g, o, e, _⟩ := h (by
  intro e
  have h1 := rows_len hC l
  rw [e] at h1
  have h2 : 0 < l.length * m := Nat.mul_pos hl hm
  simp at h1
  omega)
 exact ⟨g, o, e⟩
theorem vend {va : Value} {g H cap n : Nat} (h : va.ownBlock = some g ∨ g = H + 1) : ∀ b, (Value.slice (some ⟨g, 0, none⟩) n cap).ownBlock = some b → va.ownBlock = some b ∨ H ≤ b := by
 intro b hb
 obtain rfl : g = b := by simpa [Value.ownBlock] using hb
 rcases h with h | h
 ·
  exact .inl h
 ·
  right; omega
end Go.Proofs.YtgednnjmcjhfmaaGreatDoor
namespace Go.Proofs.YtgednnjmcjhfmaaGreatDoor
open Go.RowKit
set_option maxRecDepth 10000
set_option maxHeartbeats 80000000
theorem eq_nat {a b : Nat} (h : a = b) : ((a : Int) == (b : Int)) = true := beq_iff_eq.2 (by omega)
section
variable (p : Nat) (va vt : Value) (S : Lg) (id : Nat) (fl : Int) (db cr : Nat) (w : World) (h : HasG w 96 p va vt S)

theorem ja_1 (h0 : id = 0) : S.ja ⟨id, fl, db, cr⟩ = 1 := by unfold Lg.ja; rw [if_pos h0]
theorem ja_2 (h0 : id ≠ 0) (h1 : S.fa id < S.A.length) : S.ja ⟨id, fl, db, cr⟩ = 2 := by unfold Lg.ja; rw [if_neg h0, if_pos h1]
theorem ja_3 (h0 : id ≠ 0) (h1 : ¬ S.fa id < S.A.length) (h2 : 1 < fl) : S.ja ⟨id, fl, db, cr⟩ = 3 := by unfold Lg.ja; rw [if_neg h0, if_neg h1, if_pos h2]
theorem ja_10 (h0 : id ≠ 0) (h1 : ¬ S.fa id < S.A.length) (h2 : ¬ 1 < fl) (h3 : S.A.length = 8) : S.ja ⟨id, fl, db, cr⟩ = 10 := by unfold Lg.ja; rw [if_neg h0, if_neg h1, if_neg h2, if_pos h3]
theorem ja_0 (h0 : id ≠ 0) (h1 : ¬ S.fa id < S.A.length) (h2 : ¬ 1 < fl) (h3 : S.A.length ≠ 8) : S.ja ⟨id, fl, db, cr⟩ = 0 := by unfold Lg.ja; rw [if_neg h0, if_neg h1, if_neg h2, if_neg h3]
theorem judgea_1 : Calls Tryz.prog 123 #[.pointer (some ⟨p, 0, none⟩), .agg #[.int .u64 ((0 : Nat) : Int), .int .i64 fl, .int .u64 (db : Int), .int .u64 (cr : Int)]] w (VE w (.int .i64 ((1 : Nat) : Int))) := by
 go_enter Tryz.func123, Tryz.ntmps123
 go_wp2_with fail
 go_ret
 exact ⟨rfl, (Below.refl _ _).alloc (Nat.le_refl _) _⟩
include h in
theorem judgea_2 (h0 : id ≠ 0) (h1 : S.fa id < S.A.length) : Calls Tryz.prog 123 #[.pointer (some ⟨p, 0, none⟩), .agg #[.int .u64 (id : Int), .int .i64 fl, .int .u64 (db : Int), .int .u64 (cr : Int)]] w (VE w (.int .i64 ((2 : Nat) : Int))) := by
 obtain ⟨g, c, -, -, hg⟩ := own_some h.accs (by omega : 0 < S.A.length)
 have HF := hid (fun W (hW : Below w.heap.size w W) => account_yes p g (S.fa id) va vt S id W (h.below hW) hg rfl h1)
 have hz : ((id : Int) == 0) = false := ne_nat h0
 clear h h0 h1 hg
 generalize S.fa id = k at *
 go_enter Tryz.func123, Tryz.ntmps123
 go_wp2_with (go_at_call 127; refine (HF.out _ ((Below.refl _ _).alloc (Nat.le_refl _) _)).mono ?_; rintro e w2 ⟨rfl, hb2⟩)
 go_ret
 exact ⟨rfl, ((Below.refl _ _).alloc (Nat.le_refl _) _).trans (hb2.mono (by simp))⟩
include h in
theorem judgea_3 (h0 : id ≠ 0) (h1 : ¬ S.fa id < S.A.length) (h2 : 1 < fl) : Calls Tryz.prog 123 #[.pointer (some ⟨p, 0, none⟩), .agg #[.int .u64 (id : Int), .int .i64 fl, .int .u64 (db : Int), .int .u64 (cr : Int)]] w (VE w (.int .i64 ((3 : Nat) : Int))) := by
 have HF := hid (fun W (hW : Below w.heap.size w W) => account_no p va vt S id W (h.below hW) h1)
 have hz : ((id : Int) == 0) = false := ne_nat h0
 have HRW := hid (show Row (w.alloc (.cells #[.int .u64 (id : Int), .int .i64 fl, .int .u64 (db : Int), .int .u64 (cr : Int)] 80)) w.heap.size 80 [.int .u64 (id : Int), .int .i64 fl, .int .u64 (db : Int), .int .u64 (cr : Int)] from Row.new _ _ _)
 clear h h0 h1
 go_enter Tryz.func123, Tryz.ntmps123
 go_wp2_with (go_at_call 127; refine (HF.out _ ((Below.refl _ _).alloc (Nat.le_refl _) _)).mono ?_; rintro e w2 ⟨rfl, hb2⟩; have hc1 := (HRW.out.below hb2 (by simp)).at_ 1 _ rfl)
 go_ret
 exact ⟨rfl, ((Below.refl _ _).alloc (Nat.le_refl _) _).trans (hb2.mono (by simp))⟩
include h in
theorem judgea_4 (h0 : id ≠ 0) (h1 : ¬ S.fa id < S.A.length) (h2 : ¬ 1 < fl) (r : Nat) (hr : r = if S.A.length = 8 then 10 else 0) : Calls Tryz.prog 123 #[.pointer (some ⟨p, 0, none⟩), .agg #[.int .u64 (id : Int), .int .i64 fl, .int .u64 (db : Int), .int .u64 (cr : Int)]] w (VE w (.int .i64 (r : Int))) := by
 have HF := hid (fun W (hW : Below w.heap.size w W) => account_no p va vt S id W (h.below hW) h1)
 have hz : ((id : Int) == 0) = false := ne_nat h0
 have HRW := hid (show Row (w.alloc (.cells #[.int .u64 (id : Int), .int .i64 fl, .int .u64 (db : Int), .int .u64 (cr : Int)] 80)) w.heap.size 80 [.int .u64 (id : Int), .int .i64 fl, .int .u64 (db : Int), .int .u64 (cr : Int)] from Row.new _ _ _)
 obtain ⟨A, c, e, hnc, -⟩ := h.va_shape
 have HB := hid (fun W (hW : Below w.heap.size w W) => (h.below hW).c0)
 rw [e] at HB
 have hw8 := h.wf.la
 generalize S.A.length = n at *
 clear h h0 h1 e
 by_cases h8 : n = 8
 ·
  subst h8
  rw [if_pos rfl] at hr
  subst hr
  go_enter Tryz.func123, Tryz.ntmps123
  go_wp2_with (go_at_call 127; refine (HF.out _ ((Below.refl _ _).alloc (Nat.le_refl _) _)).mono ?_; rintro e w2 ⟨rfl, hb2⟩; have hc1 := (HRW.out.below hb2 (by simp)).at_ 1 _ rfl; have hcp := HB.out w2 (((Below.refl _ _).alloc (Nat.le_refl _) _).trans (hb2.mono (by simp))))
  go_ret
  exact ⟨rfl, ((Below.refl _ _).alloc (Nat.le_refl _) _).trans (hb2.mono (by simp))⟩
 ·
  rw [if_neg h8] at hr
  subst hr
  have hq : ((n : Int) == 8) = false := ne_nat h8
  go_enter Tryz.func123, Tryz.ntmps123
  go_wp2_with (go_at_call 127; refine (HF.out _ ((Below.refl _ _).alloc (Nat.le_refl _) _)).mono ?_; rintro e w2 ⟨rfl, hb2⟩; have hc1 := (HRW.out.below hb2 (by simp)).at_ 1 _ rfl; have hcp := HB.out w2 (((Below.refl _ _).alloc (Nat.le_refl _) _).trans (hb2.mono (by simp))))
  go_ret
  exact ⟨rfl, ((Below.refl _ _).alloc (Nat.le_refl _) _).trans (hb2.mono (by simp))⟩
end
theorem judgea_any (p : Nat) (va vt : Value) (S : Lg) (x : Ac) (w : World) (h : HasG w 96 p va vt S) : Calls Tryz.prog 123 #[.pointer (some ⟨p, 0, none⟩), .agg x.cells.toArray] w (VE w (.int .i64 (S.ja x : Int))) := by
 obtain ⟨id, fl, db, cr⟩ := x
 by_cases h0 : id = 0
 ·
  rw [ja_1 S id fl db cr h0]
  subst h0
  exact judgea_1 p fl db cr w
 by_cases h1 : S.fa id < S.A.length
 ·
  rw [ja_2 S id fl db cr h0 h1]
  exact judgea_2 p va vt S id fl db cr w h h0 h1
 by_cases h2 : 1 < fl
 ·
  rw [ja_3 S id fl db cr h0 h1 h2]
  exact judgea_3 p va vt S id fl db cr w h h0 h1 h2
 by_cases h3 : S.A.length = 8
 ·
  rw [ja_10 S id fl db cr h0 h1 h2 h3]
  exact judgea_4 p va vt S id fl db cr w h h0 h1 h2 10 (by rw [if_pos h3])
 ·
  rw [ja_0 S id fl db cr h0 h1 h2 h3]
  exact judgea_4 p va vt S id fl db cr w h h0 h1 h2 0 (by rw [if_neg h3])
theorem cs_one4 {a b c d : Value} (ha : a.oneCell' = true) (hb : b.oneCell' = true) (hc : c.oneCell' = true) (hd : d.oneCell' = true) : ∀ u ∈ [a, b, c, d], u.oneCell' = true := by
 intro u hu
 simp only [List.mem_cons, List.not_mem_nil, or_false] at hu
 rcases hu with rfl | rfl | rfl | rfl <;> assumption
section
variable {w3 w4 : World} {X p g1 : Nat} {T1 : TypeId} {va vt : Value} {S : Lg} {ob : Obj} {xs : List Value}
theorem app_factsa (h3 : HasG w3 X p va vt S) (hr : Row w3 g1 T1 xs) (hne : ∀ b ∈ fpG p va vt, b ≠ g1) (hg : (w3.drew.alloc ob).grownBy w4 va.ownBlock) :
  Row w4 p X [va, vt] ∧ Fr w3 w4 va.ownBlock.toList ∧ w4.rangeAt g1 0 xs := by
 have hf : Fr w3 w4 va.ownBlock.toList := ((Fr.refl w3 va.ownBlock.toList).drew.alloc ob).grown hg (by intro b hb; exact .inl (by simp [hb]))
 refine ⟨hf.row h3.box (by simpa using h3.n1), hf, ?_⟩
 have hr4 := hf.row hr (by
  simp
  intro e
  exact hne g1 (by simp [fpG, e]) rfl)
 intro j v hv
 rw [Nat.zero_add]
 exact hr4.at_ j v hv
theorem app_factst (h3 : HasG w3 X p va vt S) (hr : Row w3 g1 T1 xs) (hne : ∀ b ∈ fpG p va vt, b ≠ g1) (hg : (w3.drew.alloc ob).grownBy w4 vt.ownBlock) :
  Row w4 p X [va, vt] ∧ Fr w3 w4 vt.ownBlock.toList ∧ w4.rangeAt g1 0 xs := by
 have hf : Fr w3 w4 vt.ownBlock.toList := ((Fr.refl w3 vt.ownBlock.toList).drew.alloc ob).grown hg (by intro b hb; exact .inl (by simp [hb]))
 refine ⟨hf.row h3.box (by simpa using h3.n2), hf, ?_⟩
 have hr4 := hf.row hr (by
  simp
  intro e
  exact hne g1 (by simp [fpG, e]) rfl)
 intro j v hv
 rw [Nat.zero_add]
 exact hr4.at_ j v hv
end

theorem makea_yes (p : Nat) (va vt : Value) (S : Lg) (id : Nat) (fl : Int) (db cr : Nat) (w : World) (h : HasG w 96 p va vt S) (hx : (⟨id, fl, db, cr⟩ : Ac).flat) (hj : S.ja ⟨id, fl, db, cr⟩ = 0) (h8 : S.A.length + 1 ≤ 8) :
  Calls Tryz.prog 87 #[.pointer (some ⟨p, 0, none⟩), .agg #[.int .u64 (id : Int), .int .i64 fl, .int .u64 (db : Int), .int .u64 (cr : Int)]] w fun e w' => e = .returned (.string ⟨[0].toArray⟩) ∧ Gw 96 p w (fpG p va vt) ⟨S.A ++ [⟨id, fl, db, cr⟩], S.T⟩ w' := by
 have HJ := hid (fun W (hW : Below w.heap.size w W) => judgea_any p va vt S ⟨id, fl, db, cr⟩ W (h.below hW))
 rw [hj] at HJ
 have HJ2 : Hid (∀ W, Below w.heap.size w W → Calls Tryz.prog 123 #[.pointer (some ⟨p, 0, none⟩), .agg #[.int .u64 (id : Int), .int .i64 fl, .int .u64 (db : Int), .int .u64 (cr : Int)]] W (VE W (.int .i64 0))) := hid HJ.out
 have HO : Hid (∀ W, Calls Tryz.prog 109 #[.int .i64 0] W (SE W [0])) := hid (fun W => onebyte_any 0 W (by decide))
 have HH := hid h
 have hlw := HH.out.lt
 have HLW := hid hlw
 have HROOM := hid h8
 have HXN := hid hx
 have hn8 : S.A.length ≤ 8 := by omega
 have cs_one : ∀ u ∈ ([.int .u64 (id : Int), .int .i64 fl, .int .u64 (db : Int), .int .u64 (cr : Int)] : List Value), u.oneCell' = true := cs_one4 rfl rfl rfl rfl
 have HRW := hid (show Row (w.alloc (.cells #[.int .u64 (id : Int), .int .i64 fl, .int .u64 (db : Int), .int .u64 (cr : Int)] 80)) w.heap.size 80 [.int .u64 (id : Int), .int .i64 fl, .int .u64 (db : Int), .int .u64 (cr : Int)] from Row.new _ _ _)
 obtain ⟨XN, hXN⟩ : ∃ XN : Ac, XN = ⟨id, fl, db, cr⟩ := ⟨_, rfl⟩
 rw [← hXN] at HXN ⊢
 have HEX : Hid (XN.cells = [.int .u64 (id : Int), .int .i64 fl, .int .u64 (db : Int), .int .u64 (cr : Int)]) := hid (by rw [hXN]; rfl)
 clear HJ h hj hx hlw h8 hXN
 go_enter Tryz.func87, Tryz.ntmps87
 go_wp2_with (go_at_call 123; refine (HJ2.out _ ((Below.refl _ _).alloc (Nat.le_refl _) _)).mono ?_; rintro e w3 ⟨rfl, hb3⟩)
 have hb0 : Below w.heap.size w w3 := ((Below.refl _ _).alloc (Nat.le_refl _) _).trans (hb3.mono (by simp))
 have h3 := hid (HH.out.below hb0)
 have HRX := hid (HRW.out.below hb3 (by simp))
 have HRG : Hid (w3.drew.rangeAt w.heap.size 0 [.int .u64 (id : Int), .int .i64 fl, .int .u64 (db : Int), .int .u64 (cr : Int)]) := hid fun j v hv => by rw [Nat.zero_add]; exact HRX.out.at_ j v hv
 have HNE : Hid (∀ b ∈ fpG p va vt, b ≠ w.heap.size) := hid fun b hb => by have := HLW.out b hb; omega
 have HNEP : Hid (p ≠ w.heap.size) := hid (HNE.out p (by simp [fpG]))
 have hc3 := h3.out.c0
 have HC := hid hc3
 have HLT := hid h3.out.box.lt
 have HB0 := hid hb0
 clear hb3 hb0 HJ2 HRW
 have HNP : Hid ((⟨p, 0, none⟩ : Addr).block ≠ w.heap.size) := HNEP
 refine wp_region_held_drew (S := fun w' => w'.rangeAt w.heap.size 0 [.int .u64 (id : Int), .int .i64 fl, .int .u64 (db : Int), .int .u64 (cr : Int)]) (by kernel_rfl) HRG.out (fun hH => ?_)
 refine tk_ (i := 0) (v := .pointer (some ⟨p, 0, none⟩)) rfl (Or.inl ⟨by rfl, fun w' hw' => by clear hw' ; go_simp⟩) hH ?_
 simp only [Act.put]
 refine tk_ (i := 1) (v := .pointer (some ⟨p, 0, none⟩)) rfl (Or.inl ⟨by rfl, fun w' hw' => by clear hw' ; go_simp⟩) hH ?_
 simp only [Act.put]
 refine tk_ (i := 2) (v := .pointer (some ⟨p, 0, none⟩)) rfl (Or.inl ⟨by rfl, fun w' hw' => by clear hw' ; go_simp⟩) hH ?_
 simp only [Act.put]
 refine tk_ (i := 3) (v := .pointer (some ⟨p, 0, none⟩)) rfl (Or.inl ⟨by rfl, fun w' hw' => by clear hw' ; go_simp⟩) hH ?_
 simp only [Act.put]
 refine tk_ (i := 5) (v := .agg ([.int .u64 (id : Int), .int .i64 fl, .int .u64 (db : Int), .int .u64 (cr : Int)]).toArray) rfl
  (yieldsIf_load_mid (by rfl) 80 (.tmp 3) rfl w.heap.size 0 rfl _ _ (fun _ hw => hw) Tryz.underlying80 rfl acSize) hH ?_
 simp only [Act.put]
 obtain ⟨i0, hi, hz0, hz1, hz2⟩ := info_parts acInfo
 have hnews : Hid (∀ j u, ([.int .u64 (id : Int), .int .i64 fl, .int .u64 (db : Int), .int .u64 (cr : Int)])[j]? = some u → ((w3).drew.alloc (.cells ([.int .u64 (id : Int), .int .i64 fl, .int .u64 (db : Int), .int .u64 (cr : Int)]).toArray 80)).cell? ((⟨(w3).heap.size, 0, none⟩ : Addr).add j) = some u) := hid (by
  have := World.news_of_block (heap_alloc_new (w3).drew (.cells ([.int .u64 (id : Int), .int .i64 fl, .int .u64 (db : Int), .int .u64 (cr : Int)]).toArray 80))
  simpa using this)
 refine wpAnyH_ready (rs := [4, 6]) (by kernel_rfl) (by simp) ?_
 refine AllReadyH.cons rfl (fun K hK => ?_) (AllReadyH.cons rfl (fun K hK => ?_) AllReadyH.nil)
 ·
  go_simp
  refine hK.out _ _ hH (fun hH => ?_)
  clear hK K
  refine rd1 (i := 6) (by kernel_rfl) rfl (fun K hK => ?_)
  rw [if_pos (by rfl)]
  refine wp_slice1 53 80 (.tmp 16) rfl i0 _ 4 Tryz.underlying53 hi hz0 hz1 (by decide) (by decide) [.int .u64 (id : Int), .int .i64 fl, .int .u64 (db : Int), .int .u64 (cr : Int)] rfl rfl ?_
  simp only [Act.put]
  refine hK.out _ _ (World.rangeAt_alloc hH _) (fun hH => ?_)
  clear hK K
  refine rd1 (i := 7) (by kernel_rfl) rfl (fun K hK => ?_)
  refine step_append_lies _ rfl (.tmp 15) (.tmp 17) 53 rfl 0 80 i0 _ 4 32 Tryz.underlying53 hi hz0 hz1 hz2 rfl (by decide) va S.A.length _ rfl ((h3.out.accs.drew).alloc _) ⟨w3.heap.size, 0, none⟩ 1 1 [.int .u64 (id : Int), .int .i64 fl, .int .u64 (db : Int), .int .u64 (cr : Int)] rfl rfl hnews.out cs_one (by decide) (le_maxLen (by omega)) (by omega) (Nat.zero_le _) (w3.heap.size + 1) (by simp) ?_
  intro g cap w4 ho4 hg4 hat hlt4
  have HAP := hid (app_factsa h3.out HRX.out HNE.out hg4)
  have hH4 := HAP.out.2.2
  simp only [Act.put]
  refine hK.out _ _ hH4 (fun hH => ?_)
  clear hK K hH4
  refine tk_ (i := 8) (v := .pointer (some ⟨p, 0, none⟩)) rfl (Or.inl ⟨by rfl, fun w' hw' => by clear hw' ; go_simp⟩) hH ?_
  simp only [Act.put]
  refine tk_ (i := 9) (v := .pointer (some ⟨p, 0, none⟩)) rfl (Or.inl ⟨by rfl, fun w' hw' => by clear hw' ; go_simp⟩) hH ?_
  simp only [Act.put]
  have c4 := HAP.out.1.at_ 0 _ rfl
  have f4 := HAP.out.1.frozen 0
  have HO4 := hid ho4
  have HAT := hid hat
  clear ho4 hat hg4
  refine rd1 (i := 10) (by kernel_rfl) rfl (fun K hK => ?_)
  go_simp
  refine hK.out _ _ (fun j v hv => (World.cell?_setCell_far _ _ _ _ HNP.out).trans (hH j v hv)) (fun hH => ?_)
  clear hK K hH
  refine wpAnyH_done (by kernel_rfl) ?_ _
  try simp only [Act.put]
  have HM := hid (h3.out.moreA (X := 96) (x := XN) HAP.out.2.1 (by have h := HO4.out; rw [← HEX.out] at h; exact h) (vend HAT.out) HROOM.out HXN.out)
  clear c4 f4
  generalize (w4.setCell ⟨p, 0, none⟩ (.slice (some ⟨g, 0, none⟩) (S.A.length + 1) cap)) = w5 at *
  go_wp2_with (go_at_call 109; refine (HO.out _).mono ?_; rintro e w6 ⟨rfl, hb6⟩)
  go_ret
  refine ⟨rfl, Gw.below ⟨fpG p (.slice (some ⟨g, 0, none⟩) (S.A.length + 1) cap) vt, ⟨_, _, rfl, HM.out.1⟩, ?_, ?_⟩ hb6⟩
  ·
   exact ((Fr.of_below HB0.out).mono (fq := fpG p va vt) (by simp)).trans HM.out.2.1 (by intro b hb _; exact hb)
  ·
   intro b hb
   rcases HM.out.2.2 b hb with h | h
   ·
    exact .inl h
   ·
    have := HB0.out.size
    right; omega
 ·
  rw [if_pos (by rfl)]
  refine wp_slice1 53 80 (.tmp 16) rfl i0 _ 4 Tryz.underlying53 hi hz0 hz1 (by decide) (by decide) [.int .u64 (id : Int), .int .i64 fl, .int .u64 (db : Int), .int .u64 (cr : Int)] rfl rfl ?_
  simp only [Act.put]
  refine hK.out _ _ (World.rangeAt_alloc hH _) (fun hH => ?_)
  clear hK K
  have c32 : ((w3).alloc (.cells ([.int .u64 (id : Int), .int .i64 fl, .int .u64 (db : Int), .int .u64 (cr : Int)]).toArray 80)).cell? ⟨p, 0, none⟩ = some va := (World.cell?_alloc_lt _ _ _ HLT.out).trans HC.out
  refine rd1 (i := 4) (by kernel_rfl) rfl (fun K hK => ?_)
  go_simp
  refine hK.out _ _ hH (fun hH => ?_)
  clear hK K c32
  refine rd1 (i := 7) (by kernel_rfl) rfl (fun K hK => ?_)
  refine step_append_lies _ rfl (.tmp 15) (.tmp 17) 53 rfl 0 80 i0 _ 4 32 Tryz.underlying53 hi hz0 hz1 hz2 rfl (by decide) va S.A.length _ rfl ((h3.out.accs.drew).alloc _) ⟨w3.heap.size, 0, none⟩ 1 1 [.int .u64 (id : Int), .int .i64 fl, .int .u64 (db : Int), .int .u64 (cr : Int)] rfl rfl hnews.out cs_one (by decide) (le_maxLen (by omega)) (by omega) (Nat.zero_le _) (w3.heap.size + 1) (by simp) ?_
  intro g cap w4 ho4 hg4 hat hlt4
  have HAP := hid (app_factsa h3.out HRX.out HNE.out hg4)
  have hH4 := HAP.out.2.2
  simp only [Act.put]
  refine hK.out _ _ hH4 (fun hH => ?_)
  clear hK K hH4
  refine tk_ (i := 8) (v := .pointer (some ⟨p, 0, none⟩)) rfl (Or.inl ⟨by rfl, fun w' hw' => by clear hw' ; go_simp⟩) hH ?_
  simp only [Act.put]
  refine tk_ (i := 9) (v := .pointer (some ⟨p, 0, none⟩)) rfl (Or.inl ⟨by rfl, fun w' hw' => by clear hw' ; go_simp⟩) hH ?_
  simp only [Act.put]
  have c4 := HAP.out.1.at_ 0 _ rfl
  have f4 := HAP.out.1.frozen 0
  have HO4 := hid ho4
  have HAT := hid hat
  clear ho4 hat hg4
  refine rd1 (i := 10) (by kernel_rfl) rfl (fun K hK => ?_)
  go_simp
  refine hK.out _ _ (fun j v hv => (World.cell?_setCell_far _ _ _ _ HNP.out).trans (hH j v hv)) (fun hH => ?_)
  clear hK K hH
  refine wpAnyH_done (by kernel_rfl) ?_ _
  try simp only [Act.put]
  have HM := hid (h3.out.moreA (X := 96) (x := XN) HAP.out.2.1 (by have h := HO4.out; rw [← HEX.out] at h; exact h) (vend HAT.out) HROOM.out HXN.out)
  clear c4 f4
  generalize (w4.setCell ⟨p, 0, none⟩ (.slice (some ⟨g, 0, none⟩) (S.A.length + 1) cap)) = w5 at *
  go_wp2_with (go_at_call 109; refine (HO.out _).mono ?_; rintro e w6 ⟨rfl, hb6⟩)
  go_ret
  refine ⟨rfl, Gw.below ⟨fpG p (.slice (some ⟨g, 0, none⟩) (S.A.length + 1) cap) vt, ⟨_, _, rfl, HM.out.1⟩, ?_, ?_⟩ hb6⟩
  ·
   exact ((Fr.of_below HB0.out).mono (fq := fpG p va vt) (by simp)).trans HM.out.2.1 (by intro b hb _; exact hb)
  ·
   intro b hb
   rcases HM.out.2.2 b hb with h | h
   ·
    exact .inl h
   ·
    have := HB0.out.size
    right; omega
theorem makea_no (p : Nat) (va vt : Value) (S : Lg) (id : Nat) (fl : Int) (db cr : Nat) (w : World) (h : HasG w 96 p va vt S) (k : Nat) (hj : S.ja ⟨id, fl, db, cr⟩ = k) (hk : k ≠ 0) (hk2 : k ≤ 10) :
  Calls Tryz.prog 87 #[.pointer (some ⟨p, 0, none⟩), .agg #[.int .u64 (id : Int), .int .i64 fl, .int .u64 (db : Int), .int .u64 (cr : Int)]] w (SE w [UInt8.ofNat k]) := by
 have HJ := hid (fun W (hW : Below w.heap.size w W) => judgea_any p va vt S ⟨id, fl, db, cr⟩ W (h.below hW))
 rw [hj] at HJ
 have HJ2 : Hid (∀ W, Below w.heap.size w W → Calls Tryz.prog 123 #[.pointer (some ⟨p, 0, none⟩), .agg #[.int .u64 (id : Int), .int .i64 fl, .int .u64 (db : Int), .int .u64 (cr : Int)]] W (VE W (.int .i64 (k : Int)))) := hid HJ.out
 have HO := hid (fun W => onebyte_any k W (by omega))
 have hz : ((k : Int) == 0) = false := ne_nat hk
 clear HJ h hj hk
 go_enter Tryz.func87, Tryz.ntmps87
 go_wp2_with (first
  | (go_at_call 123; refine (HJ2.out _ ((Below.refl _ _).alloc (Nat.le_refl _) _)).mono ?_; rintro e w3 ⟨rfl, hb3⟩)
  | (go_at_call 109; refine (HO.out _).mono ?_; rintro e w6 ⟨rfl, hb6⟩))
 go_ret
 exact ⟨rfl, ((Below.refl _ _).alloc (Nat.le_refl _) _).trans ((hb3.trans (hb6.mono hb3.size)).mono (by simp))⟩
theorem makea_any (p : Nat) (fp : List Nat) (S : Lg) (x : Ac) (w : World) (h : Gk 96 p S fp w) (hx : x.flat) :
  Calls Tryz.prog 87 #[.pointer (some ⟨p, 0, none⟩), .agg x.cells.toArray] w fun e w' => e = .returned (.string ⟨(mka S x).2.toArray⟩) ∧ Gw 96 p w fp (mka S x).1 w' := by
 obtain ⟨va, vt, rfl, h⟩ := h
 obtain ⟨id, fl, db, cr⟩ := x
 unfold mka Lg.opn
 by_cases hj : S.ja ⟨id, fl, db, cr⟩ = 0
 ·
  rw [if_pos hj, hj]
  have h8 : S.A.length + 1 ≤ 8 := by
   have := (Lg.opn_wf h.wf _ hx).la
   unfold Lg.opn at this
   rw [if_pos hj] at this
   simpa using this
  exact makea_yes p va vt S id fl db cr w h hx hj h8
 ·
  rw [if_neg hj]
  refine (makea_no p va vt S id fl db cr w h _ rfl hj (S.ja_le _)).mono fun e w' hh => ⟨hh.1, ?_⟩
  exact (Gw.start ⟨va, vt, rfl, h⟩).below hh.2
theorem trL_le (x : Tr) : (trL x).length ≤ 32 := by rw [trL_len]; exact Nat.le_refl _
theorem putL_one (x : Tr) : putL trB [x] = (trL x, 0) := by simp [putL, trB, trL]
theorem one_cat (b : UInt8) (bs : List UInt8) : (⟨#[b]⟩ : ByteArray) ++ ⟨bs.toArray⟩ = ⟨(b :: bs).toArray⟩ := cat_mk [b] bs
theorem one_cat2 (b : UInt8) (bs : List UInt8) : (⟨#[b]⟩ : ByteArray) ++ ⟨#[]⟩ ++ ⟨bs.toArray⟩ = ⟨(b :: bs).toArray⟩ := by
 have h1 := cat_mk [b] []
 have h2 := cat_mk ([b] ++ []) bs
 rw [← h1] at h2
 exact h2
theorem laya_any (x : Ac) (hx : x.ok) (w : World) : Calls Tryz.prog 72 #[.agg x.cells.toArray] w (SE w (acB x)) := by
 have HP := hid (pw_any x hx)
 unfold acB
 obtain ⟨id, fl, db, cr⟩ := x
 generalize wholeB ⟨id, fl, db, cr⟩ = r at *
 obtain ⟨bs, er⟩ := r
 have HP2 : Hid (∀ W : World, Calls Tryz.prog 110 #[.agg #[.int .u64 (id : Int), .int .i64 fl, .int .u64 (db : Int), .int .u64 (cr : Int)]] W (SN W (bs, er))) := hid HP.out
 show Calls Tryz.prog 72 #[.agg #[.int .u64 (id : Int), .int .i64 fl, .int .u64 (db : Int), .int .u64 (cr : Int)]] w (SE w bs)
 clear HP hx
 go_enter Tryz.func72, Tryz.ntmps72
 go_wp2_with (go_at_call 110; refine (HP2.out _).mono ?_; rintro e w1 ⟨rfl, hb1⟩)
 go_ret
 exact ⟨rfl, ((Below.refl _ _).alloc (Nat.le_refl _) _).trans (hb1.mono (by simp))⟩
theorem layt_any (x : Tr) (hx : x.ok) (w : World) : Calls Tryz.prog 74 #[.agg x.cells.toArray] w (SE w (trL x)) := by
 have HP := hid (fun A B W (hr : Rd W B A (rows Tr.cells [x])) hB => putt_list A [x] 1 1 B W hr rfl (Nat.le_refl _) hB (by intro y hy; rw [List.mem_singleton.1 hy]; exact hx))
 rw [putL_one, rows1] at HP
 obtain ⟨i0, hi, hz0, hz1, hz2⟩ := info_parts trInfo
 obtain ⟨a, b, c, d⟩ := x
 generalize trL ⟨a, b, c, d⟩ = bs at *
 have HP2 : Hid (∀ A B (W : World), Rd W B A [.int .u64 (a : Int), .int .u64 (b : Int), .int .u64 (c : Int), .int .u64 (d : Int)] → B ≤ W.heap.size → Calls Tryz.prog 111 #[.slice A 1 1] W (SN W (bs, 0))) := hid HP.out
 show Calls Tryz.prog 74 #[.agg #[.int .u64 (a : Int), .int .u64 (b : Int), .int .u64 (c : Int), .int .u64 (d : Int)]] w (SE w bs)
 have HR : Hid (Rd ((w.alloc (.cells #[.int .u64 (a : Int), .int .u64 (b : Int), .int .u64 (c : Int), .int .u64 (d : Int)] 82)).alloc (.cells #[.int .u64 (a : Int), .int .u64 (b : Int), .int .u64 (c : Int), .int .u64 (d : Int)] 82)) (w.heap.size + 2) (some ⟨w.heap.size + 1, 0, none⟩) [.int .u64 (a : Int), .int .u64 (b : Int), .int .u64 (c : Int), .int .u64 (d : Int)]) := hid (Row.rd (e := 82) (alloc2_new _ _ _) (by omega))
 clear HP hx
 go_enter Tryz.func74, Tryz.ntmps74
 go_wp2_with (first
  | (refine wpl_slice1 rfl 55 82 (.tmp 6) rfl i0 _ 4 Tryz.underlying55 hi hz0 hz1 (by decide) (by decide) [.int .u64 (a : Int), .int .u64 (b : Int), .int .u64 (c : Int), .int .u64 (d : Int)] rfl rfl ?_)
  | (go_at_call 111; refine (HP2.out _ _ _ HR.out (by simp)).mono ?_; rintro e w1 ⟨rfl, hb1⟩))
 go_ret
 exact ⟨rfl, (((Below.refl _ _).alloc (Nat.le_refl _) _).alloc (by simp) _).trans (hb1.mono (by simp; omega))⟩
theorem tella_no (w : World) : Calls Tryz.prog 131 #[.pointer none, .func (.func 72) #[] #[]] w (SE w [0]) := by
 go_enter Tryz.func131, Tryz.ntmps131
 go_wp2_with fail
 go_ret
 exact ⟨rfl, Below.refl _ _⟩
theorem tella_yes (g o : Nat) (x : Ac) (w : World) (hx : x.ok) (hl : (acB x).length ≤ 32) (hr : w.rangeAt g o (Ac.cells x)) : Calls Tryz.prog 131 #[.pointer (some ⟨g, o, none⟩), .func (.func 72) #[] #[]] w (SE w (1 :: acB x)) := by
 have HL := hid (laya_any x hx)
 have HC4 : Hid ((Ac.cells x).length = 4) := hid (Ac.len _)
 generalize acB x = bs at *
 generalize Ac.cells x = X at *
 have HR := hid hr
 have HZ := hid acSize
 have hq : ¬ (9223372036854775807 < 1 + bs.length) := by omega
 have hq2 : ¬ (9223372036854775807 < bs.length + 1) := by omega
 clear hr hl hx
 go_enter Tryz.func131, Tryz.ntmps131
 go_wp2_with (first
  | (refine wpList_load_mid rfl 80 (.tmp 9) rfl g o rfl X _ HR.out Tryz.underlying80 rfl (by rw [HC4.out]; exact HZ.out) ?_)
  | (go_at_call 72; refine (HL.out _).mono ?_; rintro e w1 ⟨rfl, hb1⟩))
 go_ret
 exact ⟨by rw [← one_cat2]; rfl, hb1⟩
theorem tela_any (p : Nat) (fp : List Nat) (S : Lg) (id : Nat) (w : World) (h : Gk 96 p S fp w) : Calls Tryz.prog 93 #[.pointer (some ⟨p, 0, none⟩), .int .u64 (id : Int)] w fun e w' => e = .returned (.string ⟨(tela S id).2.toArray⟩) ∧ Gw 96 p w fp (tela S id).1 w' := by
 have key : ∀ va vt, HasG w 96 p va vt S → Calls Tryz.prog 93 #[.pointer (some ⟨p, 0, none⟩), .int .u64 (id : Int)] w (SE w (tela S id).2) := by
  intro va vt h
  unfold tela
  by_cases hk : S.fa id < S.A.length
  ·
   obtain ⟨g, c, -, -, hg⟩ := own_some h.accs (by omega : 0 < S.A.length)
   have HA := hid (account_yes p g (S.fa id) va vt S id w h hg rfl hk)
   have hl : (acB S.A[S.fa id]).length ≤ 32 := by exact Nat.le_trans (acB_le _) (by omega)
   have HT := hid (fun W (hW : Below w.heap.size w W) => tella_yes g (S.fa id * 4) S.A[S.fa id] W ((h.wf.oa _ (List.getElem_mem hk)).1) hl (by
    intro j v hv
    have hj : j < 4 := by
     have := (List.getElem?_eq_some_iff.1 hv).1
     rw [Ac.len] at this
     exact this
    have h2 := (h.below hW).accs.cells hg (S.fa id * 4 + j) v (by rw [rows_get Ac.len S.A _ j hk hj]; exact hv)
    rw [add_lit, Nat.zero_add] at h2
    exact h2))
   rw [if_pos hk, S.ac_get _ hk]
   generalize acB S.A[S.fa id] = bs at *
   generalize S.fa id = kk at *
   clear h hg hk hl
   go_enter Tryz.func93, Tryz.ntmps93
   go_wp2_with (first
    | (go_at_call 127; refine HA.out.mono ?_; rintro e w1 ⟨rfl, hb1⟩)
    | (go_at_call 131; refine (HT.out _ hb1).mono ?_; rintro e w2 ⟨rfl, hb2⟩))
   go_ret
   exact ⟨rfl, hb1.trans (hb2.mono hb1.size)⟩
  ·
   have HA := hid (account_no p va vt S id w h hk)
   rw [if_neg hk]
   clear h hk
   go_enter Tryz.func93, Tryz.ntmps93
   go_wp2_with (first
    | (go_at_call 127; refine HA.out.mono ?_; rintro e w1 ⟨rfl, hb1⟩)
    | (go_at_call 131; refine (tella_no _).mono ?_; rintro e w2 ⟨rfl, hb2⟩))
   go_ret
   exact ⟨rfl, hb1.trans (hb2.mono hb1.size)⟩
 have hG := h
 obtain ⟨va, vt, rfl, h⟩ := h
 exact (key va vt h).mono fun e w' hh => ⟨hh.1, (Gw.start hG).below hh.2⟩
/-! ### clones -/
theorem clonea_nil (w : World) : Calls Tryz.prog 66 #[.slice none 0 0] w (LS Ac.cells w []) := by
 have he : (binOp .eql 53 (.slice none 0 0) (.slice none 0 0)).run Tryz.prog w = .ok (.bool true) w := Lib.run_eql_slice_nil w _ _ none 0 0 0 0 Tryz.underlying53
 go_enter Tryz.func66, Tryz.ntmps66
 go_wp2_with fail
 go_ret
 exact ⟨none, 0, rfl, Nat.le_refl _, Rd.nil, Below.refl _ _, NewA.none _⟩
theorem clonea_some (g o : Nat) (l : List Ac) (n c B : Nat) (w : World) (hr : Rd w B (some ⟨g, o, none⟩) (rows Ac.cells l)) (hn : n = l.length) (hB : B ≤ w.heap.size) (hbig : n ≤ 100) :
  Calls Tryz.prog 66 #[.slice (some ⟨g, o, none⟩) n c] w (LS Ac.cells w l) := by
 obtain ⟨i0, hi, hz0, hz1, hz2⟩ := info_parts acInfo
 have HR := hid (fun W (hW : Below w.heap.size w W) => hr.below hW hB)
 have HL := hid (rows_len (C := Ac.cells) Ac.len l)
 have H1 := hid (rows_one (C := Ac.cells) (l := l) (fun x u hu => by
  simp only [Ac.cells, List.mem_cons, List.not_mem_nil, or_false] at hu
  rcases hu with rfl | rfl | rfl | rfl <;> rfl))
 have HN := hid hn
 have HE : Hid (∀ W : World, (W.alloc (.cells #[] 80)).ownsRow W.heap.size 80 4 (.slice (some ⟨W.heap.size, 0, none⟩) 0 0) 0 []) := hid fun W => own_empty (Row.new _ _ #[]) (Nat.le_refl _)
 have he : (binOp .eql 53 (.slice (some ⟨g, o, none⟩) n c) (.slice none 0 0)).run Tryz.prog w = .ok (.bool false) w := Lib.run_eql_slice_nil w _ _ (some ⟨g, o, none⟩) n c 0 0 Tryz.underlying53
 clear hr hn
 go_enter Tryz.func66, Tryz.ntmps66
 go_wp2_with (refine wpl_append rfl (.tmp 5) (.tmp 6) 53 rfl w.heap.size 80 i0 _ 4 32 Tryz.underlying53 hi hz0 hz1 hz2 rfl (by omega) (.slice (some ⟨w.heap.size, 0, none⟩) 0 0) 0 _ rfl (HE.out w) B (some ⟨g, o, none⟩) n c (rows Ac.cells l) rfl ?_ ?_ ?_ ?_ ?_ ?_ ?_; intro v' w2 hown2 hb2 hg2; have HO2 := hid hown2; have HB2 := hid hb2; clear hown2 hb2 hg2)
 rotate_left
 ·
  exact hid (HR.out _ ((Below.refl _ _).alloc (Nat.le_refl _) _))
 ·
  exact hid (by rw [HL.out, HN.out])
 ·
  exact hid H1.out
 ·
  exact hid (le_maxLen (by omega))
 ·
  exact hid (by omega)
 ·
  exact hid (by simp)
 go_ret
 have ho := HO2.out
 rw [Nat.zero_add, List.nil_append] at ho
 obtain ⟨A', c', rfl, hc', hrd⟩ := own_rd ho
 refine ⟨A', c', by rw [← HN.out]; rfl, by rw [← HN.out]; exact hc', hrd, ((Below.refl _ _).alloc (Nat.le_refl _) _).trans HB2.out, NewA.own ho⟩
theorem alla_any (p : Nat) (va vt : Value) (S : Lg) (w : World) (h : HasG w 96 p va vt S) : Calls Tryz.prog 39 #[.pointer (some ⟨p, 0, none⟩)] w (LS Ac.cells w S.A) := by
 have hw := h.wf.la
 have hc0 := h.c0
 have HC : Hid (Calls Tryz.prog 66 #[va] w (LS Ac.cells w S.A)) := by
  obtain ⟨A, c, e, hnc, hrd⟩ := h.va_shape
  rcases h.accs.2 with ⟨e2, h0⟩ | ⟨g, cap, cur, e2, -⟩
  ·
   have hnil : S.A = [] := List.eq_nil_of_length_eq_zero h0
   rw [e2, hnil]
   exact hid (clonea_nil w)
  ·
   rw [e2] at e
   simp only [Value.slice.injEq, true_and] at e
   obtain ⟨rfl, rfl⟩ := e
   clear hnc
   rw [e2]
   exact hid (clonea_some g 0 S.A S.A.length cap w.heap.size w hrd rfl (Nat.le_refl _) (by omega))
 clear h
 go_enter Tryz.func39, Tryz.ntmps39
 go_wp2_with (go_at_call 66; refine HC.out.mono ?_; rintro e w2 ⟨A, c, rfl, hc, hrd, hb, hnew⟩)
 go_ret
 exact ⟨A, c, rfl, hc, hrd, hb, hnew⟩
/-! ### all of them as bytes -/
theorem layalla_any (A : Option Addr) (l : List Ac) (n c B : Nat) (w : World) (hr : Rd w B A (rows Ac.cells l)) (hn : n = l.length) (hnc : n ≤ c) (hB : B ≤ w.heap.size) (hbig : n ≤ 100) (hok : ∀ x ∈ l, x.ok) :
  Calls Tryz.prog 71 #[.slice A n c, .func (.func 72) #[] #[]] w (SE w (layL acB l)) := by
 have HO := hid (fun W => onebyte_any n W (by omega))
 have HR := hid hr
 have HN := hid hn
 have HOK := hid (fun k (hk : k < l.length) => hok l[k] (List.getElem_mem hk))
 have HZ := hid acSize
 have HLL : Hid (∀ k, (layL acB (l.take k)).length ≤ 1 + k * 32) := hid fun k => by
  have h1 : ∀ m : List Ac, (m.flatMap acB).length ≤ m.length * 32 := by
   intro m
   induction m with
   | nil => simp
   | cons x r ih =>
    have := acB_le x
    rw [List.flatMap_cons, List.length_append, List.length_cons, Nat.add_mul]
    omega
  have h2 := h1 (l.take k)
  have h3 : (l.take k).length * 32 ≤ k * 32 := Nat.mul_le_mul_right _ (List.length_take_le _ _)
  simp only [layL, List.length_cons]
  omega
 have HST : Hid (∀ k (hk : k < l.length), UInt8.ofNat n :: (l.take (k + 1)).flatMap acB = (UInt8.ofNat n :: (l.take k).flatMap acB) ++ acB l[k]) := hid fun k hk => by
  rw [List.take_succ_eq_append_getElem hk, List.flatMap_append]
  simp
 have HLN : Hid (∀ k, (UInt8.ofNat n :: (l.take k).flatMap acB).length ≤ 1 + k * 32) := hid fun k => by
  have := HLL.out k
  simp only [layL, List.length_cons] at this ⊢
  exact this
 have HEND : Hid (UInt8.ofNat n :: (l.take n).flatMap acB = layL acB l) := hid (by rw [List.take_of_length_le (by omega), layL, hn])
 clear hr hn hok HLL
 go_enter Tryz.func71, Tryz.ntmps71
 go_wp2_with (go_at_call 109; refine (HO.out _).mono ?_; rintro e w1 ⟨rfl, hb1⟩)
 go_loopw [5, 13] (fun sv i wr => ∃ k : Nat, k ≤ n ∧ i = .int .i64 k ∧ sv = .string ⟨(UInt8.ofNat n :: (l.take k).flatMap acB).toArray⟩ ∧ Below w.heap.size w wr) (fun _ i _ => n - (intOf i).toNat)
 case atStart => exact ⟨0, by omega, rfl, rfl, hb1⟩
 case round =>
  obtain ⟨k, hk, rfl, rfl, hbe⟩ := hrel
  have HBE := hid hbe
  by_cases hlt : k < n
  ·
   have hkl : k < l.length := by rw [← HN.out]; exact hlt
   have hrd := HR.out.below hbe hB
   have hne : rows Ac.cells l ≠ [] := by
    intro e
    have := rows_len (C := Ac.cells) Ac.len l
    rw [e] at this
    simp at this
    omega
   obtain ⟨ga, o, rfl, hga, hx⟩ := (show _ from hrd) hne
   clear hx
   have hrg := hrd.range Ac.len k hkl
   have HL := hid (laya_any l[k] (HOK.out k hkl))
   have HS := hid (HST.out k hkl)
   have h1 := HLN.out k
   have h2 := acB_le l[k]
   have hq : ¬ (9223372036854775807 < (UInt8.ofNat n :: (l.take k).flatMap acB).length + (acB l[k]).length) := by omega
   have hC4 : (Ac.cells l[k]).length = 4 := Ac.len _
   have hC1 : ((Ac.cells l[k]).all (·.oneCell') = true) := rfl
   generalize Ac.cells l[k] = X at *
   generalize acB l[k] = bs at *
   generalize (UInt8.ofNat n :: (l.take k).flatMap acB) = acc at *
   have HC4 := hid hC4
   have HC1 := hid hC1
   have HRG := hid hrg
   clear hC4 hC1 hrg hrd hne hbe h1 h2
   go_wp2_with (first
    | (refine wpList_load_mid rfl 80 (.tmp 15) rfl ga (o + k * 4) rfl X _ HRG.out Tryz.underlying80 rfl (by rw [HC4.out]; exact HZ.out) ?_)
    | (refine wpl_store_st rfl (.tmp 7) (.tmp 16) rfl HZ.out wr.heap.size ac0.cells X rfl rfl (Row.new _ _ _) ?_ (hid rfl) (hid HC4.out) (hid HC1.out); intro w2 hr2 hg2; have hb2 : Below wr.heap.size wr w2 := ((Below.refl _ _).alloc (Nat.le_refl _) _).trans (below_grown hg2 (Nat.le_refl _) (by simp)))
    | (refine wpList_load_row rfl 80 (.tmp 7) rfl wr.heap.size rfl 80 X.toArray (0, 0) _ hr2.arr' Tryz.underlying80 rfl (by rw [List.size_toArray, HC4.out]; exact HZ.out) ?_)
    | (go_at_call 72; refine (HL.out _).mono ?_; rintro e w3 ⟨rfl, hb3⟩))
   exact ⟨⟨k + 1, by omega, by go_num, by rw [HS.out, ← cat_mk], HBE.out.trans ((hb2.trans (hb3.mono hb2.size)).mono HBE.out.size)⟩, by simp [intOf]; omega⟩
  ·
   obtain rfl : k = n := by omega
   clear hbe
   go_wp2_with fail
   go_ret
   exact ⟨by rw [HEND.out]; rfl, HBE.out⟩
theorem tellt_no (w : World) : Calls Tryz.prog 132 #[.pointer none, .func (.func 74) #[] #[]] w (SE w [0]) := by
 go_enter Tryz.func132, Tryz.ntmps132
 go_wp2_with fail
 go_ret
 exact ⟨rfl, Below.refl _ _⟩
theorem tellt_yes (g o : Nat) (x : Tr) (w : World) (hx : x.ok) (hl : (trL x).length ≤ 32) (hr : w.rangeAt g o (Tr.cells x)) : Calls Tryz.prog 132 #[.pointer (some ⟨g, o, none⟩), .func (.func 74) #[] #[]] w (SE w (1 :: trL x)) := by
 have HL := hid (layt_any x hx)
 have HC4 : Hid ((Tr.cells x).length = 4) := hid (Tr.len _)
 generalize trL x = bs at *
 generalize Tr.cells x = X at *
 have HR := hid hr
 have HZ := hid trSize
 have hq : ¬ (9223372036854775807 < 1 + bs.length) := by omega
 have hq2 : ¬ (9223372036854775807 < bs.length + 1) := by omega
 clear hr hl hx
 go_enter Tryz.func132, Tryz.ntmps132
 go_wp2_with (first
  | (refine wpList_load_mid rfl 82 (.tmp 9) rfl g o rfl X _ HR.out Tryz.underlying82 rfl (by rw [HC4.out]; exact HZ.out) ?_)
  | (go_at_call 74; refine (HL.out _).mono ?_; rintro e w1 ⟨rfl, hb1⟩))
 go_ret
 exact ⟨by rw [← one_cat2]; rfl, hb1⟩
theorem telt_any (p : Nat) (fp : List Nat) (S : Lg) (id : Nat) (w : World) (h : Gk 96 p S fp w) : Calls Tryz.prog 94 #[.pointer (some ⟨p, 0, none⟩), .int .u64 (id : Int)] w fun e w' => e = .returned (.string ⟨(telt S id).2.toArray⟩) ∧ Gw 96 p w fp (telt S id).1 w' := by
 have key : ∀ va vt, HasG w 96 p va vt S → Calls Tryz.prog 94 #[.pointer (some ⟨p, 0, none⟩), .int .u64 (id : Int)] w (SE w (telt S id).2) := by
  intro va vt h
  unfold telt
  by_cases hk : S.ft id < S.T.length
  ·
   obtain ⟨g, c, -, -, hg⟩ := own_some h.trs (by omega : 0 < S.T.length)
   have HA := hid (transfer_yes p g (S.ft id) va vt S id w h hg rfl hk)
   have hl : (trL S.T[S.ft id]).length ≤ 32 := by rw [trL_len]; exact Nat.le_refl _
   have HT := hid (fun W (hW : Below w.heap.size w W) => tellt_yes g (S.ft id * 4) S.T[S.ft id] W (h.wf.ot _ (List.getElem_mem hk)) hl (by
    intro j v hv
    have hj : j < 4 := by
     have := (List.getElem?_eq_some_iff.1 hv).1
     rw [Tr.len] at this
     exact this
    have h2 := (h.below hW).trs.cells hg (S.ft id * 4 + j) v (by rw [rows_get Tr.len S.T _ j hk hj]; exact hv)
    rw [add_lit, Nat.zero_add] at h2
    exact h2))
   rw [if_pos hk, S.tr_get _ hk]
   generalize trL S.T[S.ft id] = bs at *
   generalize S.ft id = kk at *
   clear h hg hk hl
   go_enter Tryz.func94, Tryz.ntmps94
   go_wp2_with (first
    | (go_at_call 133; refine HA.out.mono ?_; rintro e w1 ⟨rfl, hb1⟩)
    | (go_at_call 132; refine (HT.out _ hb1).mono ?_; rintro e w2 ⟨rfl, hb2⟩))
   go_ret
   exact ⟨rfl, hb1.trans (hb2.mono hb1.size)⟩
  ·
   have HA := hid (transfer_no p va vt S id w h hk)
   rw [if_neg hk]
   clear h hk
   go_enter Tryz.func94, Tryz.ntmps94
   go_wp2_with (first
    | (go_at_call 133; refine HA.out.mono ?_; rintro e w1 ⟨rfl, hb1⟩)
    | (go_at_call 132; refine (tellt_no _).mono ?_; rintro e w2 ⟨rfl, hb2⟩))
   go_ret
   exact ⟨rfl, hb1.trans (hb2.mono hb1.size)⟩
 have hG := h
 obtain ⟨va, vt, rfl, h⟩ := h
 exact (key va vt h).mono fun e w' hh => ⟨hh.1, (Gw.start hG).below hh.2⟩
/-! ### clones -/
theorem clonet_nil (w : World) : Calls Tryz.prog 67 #[.slice none 0 0] w (LS Tr.cells w []) := by
 have he : (binOp .eql 55 (.slice none 0 0) (.slice none 0 0)).run Tryz.prog w = .ok (.bool true) w := Lib.run_eql_slice_nil w _ _ none 0 0 0 0 Tryz.underlying55
 go_enter Tryz.func67, Tryz.ntmps67
 go_wp2_with fail
 go_ret
 exact ⟨none, 0, rfl, Nat.le_refl _, Rd.nil, Below.refl _ _, NewA.none _⟩
theorem clonet_some (g o : Nat) (l : List Tr) (n c B : Nat) (w : World) (hr : Rd w B (some ⟨g, o, none⟩) (rows Tr.cells l)) (hn : n = l.length) (hB : B ≤ w.heap.size) (hbig : n ≤ 100) :
  Calls Tryz.prog 67 #[.slice (some ⟨g, o, none⟩) n c] w (LS Tr.cells w l) := by
 obtain ⟨i0, hi, hz0, hz1, hz2⟩ := info_parts trInfo
 have HR := hid (fun W (hW : Below w.heap.size w W) => hr.below hW hB)
 have HL := hid (rows_len (C := Tr.cells) Tr.len l)
 have H1 := hid (rows_one (C := Tr.cells) (l := l) (fun x u hu => by
  simp only [Tr.cells, List.mem_cons, List.not_mem_nil, or_false] at hu
  rcases hu with rfl | rfl | rfl | rfl <;> rfl))
 have HN := hid hn
 have HE : Hid (∀ W : World, (W.alloc (.cells #[] 82)).ownsRow W.heap.size 82 4 (.slice (some ⟨W.heap.size, 0, none⟩) 0 0) 0 []) := hid fun W => own_empty (Row.new _ _ #[]) (Nat.le_refl _)
 have he : (binOp .eql 55 (.slice (some ⟨g, o, none⟩) n c) (.slice none 0 0)).run Tryz.prog w = .ok (.bool false) w := Lib.run_eql_slice_nil w _ _ (some ⟨g, o, none⟩) n c 0 0 Tryz.underlying55
 clear hr hn
 go_enter Tryz.func67, Tryz.ntmps67
 go_wp2_with (refine wpl_append rfl (.tmp 5) (.tmp 6) 55 rfl w.heap.size 82 i0 _ 4 32 Tryz.underlying55 hi hz0 hz1 hz2 rfl (by omega) (.slice (some ⟨w.heap.size, 0, none⟩) 0 0) 0 _ rfl (HE.out w) B (some ⟨g, o, none⟩) n c (rows Tr.cells l) rfl ?_ ?_ ?_ ?_ ?_ ?_ ?_; intro v' w2 hown2 hb2 hg2; have HO2 := hid hown2; have HB2 := hid hb2; clear hown2 hb2 hg2)
 rotate_left
 ·
  exact hid (HR.out _ ((Below.refl _ _).alloc (Nat.le_refl _) _))
 ·
  exact hid (by rw [HL.out, HN.out])
 ·
  exact hid H1.out
 ·
  exact hid (le_maxLen (by omega))
 ·
  exact hid (by omega)
 ·
  exact hid (by simp)
 go_ret
 have ho := HO2.out
 rw [Nat.zero_add, List.nil_append] at ho
 obtain ⟨A', c', rfl, hc', hrd⟩ := own_rd ho
 refine ⟨A', c', by rw [← HN.out]; rfl, by rw [← HN.out]; exact hc', hrd, ((Below.refl _ _).alloc (Nat.le_refl _) _).trans HB2.out, NewA.own ho⟩
theorem allt_any (p : Nat) (va vt : Value) (S : Lg) (w : World) (h : HasG w 96 p va vt S) : Calls Tryz.prog 40 #[.pointer (some ⟨p, 0, none⟩)] w (LS Tr.cells w S.T) := by
 have hw := h.wf.lt
 have hc0 := h.c1
 have HC : Hid (Calls Tryz.prog 67 #[vt] w (LS Tr.cells w S.T)) := by
  obtain ⟨A, c, e, hnc, hrd⟩ := h.vt_shape
  rcases h.trs.2 with ⟨e2, h0⟩ | ⟨g, cap, cur, e2, -⟩
  ·
   have hnil : S.T = [] := List.eq_nil_of_length_eq_zero h0
   rw [e2, hnil]
   exact hid (clonet_nil w)
  ·
   rw [e2] at e
   simp only [Value.slice.injEq, true_and] at e
   obtain ⟨rfl, rfl⟩ := e
   clear hnc
   rw [e2]
   exact hid (clonet_some g 0 S.T S.T.length cap w.heap.size w hrd rfl (Nat.le_refl _) (by omega))
 clear h
 go_enter Tryz.func40, Tryz.ntmps40
 go_wp2_with (go_at_call 67; refine HC.out.mono ?_; rintro e w2 ⟨A, c, rfl, hc, hrd, hb, hnew⟩)
 go_ret
 exact ⟨A, c, rfl, hc, hrd, hb, hnew⟩
/-! ### all of them as bytes -/
theorem layallt_any (A : Option Addr) (l : List Tr) (n c B : Nat) (w : World) (hr : Rd w B A (rows Tr.cells l)) (hn : n = l.length) (hnc : n ≤ c) (hB : B ≤ w.heap.size) (hbig : n ≤ 100) (hok : ∀ x ∈ l, x.ok) :
  Calls Tryz.prog 73 #[.slice A n c, .func (.func 74) #[] #[]] w (SE w (layL trL l)) := by
 have HO := hid (fun W => onebyte_any n W (by omega))
 have HR := hid hr
 have HN := hid hn
 have HOK := hid (fun k (hk : k < l.length) => hok l[k] (List.getElem_mem hk))
 have HZ := hid trSize
 have HLL : Hid (∀ k, (layL trL (l.take k)).length ≤ 1 + k * 32) := hid fun k => by
  have h1 : ∀ m : List Tr, (m.flatMap trL).length ≤ m.length * 32 := by
   intro m
   induction m with
   | nil => simp
   | cons x r ih =>
    have := trL_le x
    rw [List.flatMap_cons, List.length_append, List.length_cons, Nat.add_mul]
    omega
  have h2 := h1 (l.take k)
  have h3 : (l.take k).length * 32 ≤ k * 32 := Nat.mul_le_mul_right _ (List.length_take_le _ _)
  simp only [layL, List.length_cons]
  omega
 have HST : Hid (∀ k (hk : k < l.length), UInt8.ofNat n :: (l.take (k + 1)).flatMap trL = (UInt8.ofNat n :: (l.take k).flatMap trL) ++ trL l[k]) := hid fun k hk => by
  rw [List.take_succ_eq_append_getElem hk, List.flatMap_append]
  simp
 have HLN : Hid (∀ k, (UInt8.ofNat n :: (l.take k).flatMap trL).length ≤ 1 + k * 32) := hid fun k => by
  have := HLL.out k
  simp only [layL, List.length_cons] at this ⊢
  exact this
 have HEND : Hid (UInt8.ofNat n :: (l.take n).flatMap trL = layL trL l) := hid (by rw [List.take_of_length_le (by omega), layL, hn])
 clear hr hn hok HLL
 go_enter Tryz.func73, Tryz.ntmps73
 go_wp2_with (go_at_call 109; refine (HO.out _).mono ?_; rintro e w1 ⟨rfl, hb1⟩)
 go_loopw [5, 13] (fun sv i wr => ∃ k : Nat, k ≤ n ∧ i = .int .i64 k ∧ sv = .string ⟨(UInt8.ofNat n :: (l.take k).flatMap trL).toArray⟩ ∧ Below w.heap.size w wr) (fun _ i _ => n - (intOf i).toNat)
 case atStart => exact ⟨0, by omega, rfl, rfl, hb1⟩
 case round =>
  obtain ⟨k, hk, rfl, rfl, hbe⟩ := hrel
  have HBE := hid hbe
  by_cases hlt : k < n
  ·
   have hkl : k < l.length := by rw [← HN.out]; exact hlt
   have hrd := HR.out.below hbe hB
   have hne : rows Tr.cells l ≠ [] := by
    intro e
    have := rows_len (C := Tr.cells) Tr.len l
    rw [e] at this
    simp at this
    omega
   obtain ⟨ga, o, rfl, hga, hx⟩ := (show _ from hrd) hne
   clear hx
   have hrg := hrd.range Tr.len k hkl
   have HL := hid (layt_any l[k] (HOK.out k hkl))
   have HS := hid (HST.out k hkl)
   have h1 := HLN.out k
   have h2 := trL_le l[k]
   have hq : ¬ (9223372036854775807 < (UInt8.ofNat n :: (l.take k).flatMap trL).length + (trL l[k]).length) := by omega
   have hC4 : (Tr.cells l[k]).length = 4 := Tr.len _
   have hC1 : ((Tr.cells l[k]).all (·.oneCell') = true) := rfl
   generalize Tr.cells l[k] = X at *
   generalize trL l[k] = bs at *
   generalize (UInt8.ofNat n :: (l.take k).flatMap trL) = acc at *
   have HC4 := hid hC4
   have HC1 := hid hC1
   have HRG := hid hrg
   clear hC4 hC1 hrg hrd hne hbe h1 h2
   go_wp2_with (first
    | (refine wpList_load_mid rfl 82 (.tmp 15) rfl ga (o + k * 4) rfl X _ HRG.out Tryz.underlying82 rfl (by rw [HC4.out]; exact HZ.out) ?_)
    | (refine wpl_store_st rfl (.tmp 7) (.tmp 16) rfl HZ.out wr.heap.size tr0.cells X rfl rfl (Row.new _ _ _) ?_ (hid rfl) (hid HC4.out) (hid HC1.out); intro w2 hr2 hg2; have hb2 : Below wr.heap.size wr w2 := ((Below.refl _ _).alloc (Nat.le_refl _) _).trans (below_grown hg2 (Nat.le_refl _) (by simp)))
    | (refine wpList_load_row rfl 82 (.tmp 7) rfl wr.heap.size rfl 82 X.toArray (0, 0) _ hr2.arr' Tryz.underlying82 rfl (by rw [List.size_toArray, HC4.out]; exact HZ.out) ?_)
    | (go_at_call 74; refine (HL.out _).mono ?_; rintro e w3 ⟨rfl, hb3⟩))
   exact ⟨⟨k + 1, by omega, by go_num, by rw [HS.out, ← cat_mk], HBE.out.trans ((hb2.trans (hb3.mono hb2.size)).mono HBE.out.size)⟩, by simp [intOf]; omega⟩
  ·
   obtain rfl : k = n := by omega
   clear hbe
   go_wp2_with fail
   go_ret
   exact ⟨by rw [HEND.out]; rfl, HBE.out⟩
theorem pack_any (p : Nat) (va vt : Value) (S : Lg) (w : World) (h : HasG w 96 p va vt S) : Calls Tryz.prog 44 #[.pointer (some ⟨p, 0, none⟩)] w (SE w S.pack) := by
 have HA := hid (alla_any p va vt S w h)
 have HT := hid (fun W (hW : Below w.heap.size w W) => allt_any p va vt S W (h.below hW))
 have HLA := hid (fun A c W (hr : Rd W W.heap.size A (rows Ac.cells S.A)) hc => layalla_any A S.A S.A.length c W.heap.size W hr rfl hc (Nat.le_refl _) (by have := h.wf.la; omega) (fun x hx => (h.wf.oa x hx).1))
 have HLT := hid (fun A c W (hr : Rd W W.heap.size A (rows Tr.cells S.T)) hc => layallt_any A S.T S.T.length c W.heap.size W hr rfl hc (Nat.le_refl _) (by have := h.wf.lt; omega) h.wf.ot)
 have h1 : (layL acB S.A).length ≤ 1000 := by
  have key : ∀ m : List Ac, (m.flatMap acB).length ≤ m.length * 32 := by
   intro m
   induction m with
   | nil => simp
   | cons x r ih =>
    have := acB_le x
    rw [List.flatMap_cons, List.length_append, List.length_cons, Nat.add_mul]
    omega
  have := key S.A
  have := h.wf.la
  simp only [layL, List.length_cons]
  omega
 have h2 : (layL trL S.T).length ≤ 1000 := by
  have key : ∀ m : List Tr, (m.flatMap trL).length ≤ m.length * 32 := by
   intro m
   induction m with
   | nil => simp
   | cons x r ih =>
    have := trL_le x
    rw [List.flatMap_cons, List.length_append, List.length_cons, Nat.add_mul]
    omega
  have := key S.T
  have := h.wf.lt
  simp only [layL, List.length_cons]
  omega
 unfold Lg.pack
 generalize layL acB S.A = x1 at *
 generalize layL trL S.T = x2 at *
 have hq : ¬ (9223372036854775807 < x1.length + x2.length) := by omega
 clear h h1 h2
 go_enter Tryz.func44, Tryz.ntmps44
 go_wp2_with (first
  | (go_at_call 39; refine HA.out.mono ?_; rintro e w1 ⟨A1, c1, rfl, hc1, hrd1, hb1, -⟩)
  | (go_at_call 71; refine (HLA.out _ _ _ hrd1 hc1).mono ?_; rintro e w2 ⟨rfl, hb2⟩; have hbb := hb1.trans (hb2.mono hb1.size))
  | (go_at_call 40; refine (HT.out _ hbb).mono ?_; rintro e w3 ⟨A3, c3, rfl, hc3, hrd3, hb3, -⟩; have hbc := hbb.trans (hb3.mono hbb.size))
  | (go_at_call 73; refine (HLT.out _ _ _ hrd3 hc3).mono ?_; rintro e w4 ⟨rfl, hb4⟩))
 go_ret
 exact ⟨by rw [← cat_mk]; rfl, hbc.trans (hb4.mono hbc.size)⟩
end Go.Proofs.YtgednnjmcjhfmaaGreatDoor
namespace Go.Proofs.YtgednnjmcjhfmaaGreatDoor
open Go.ChangeShapes Go.WideShapes Go.ChangeAt Go.RowKit
set_option maxRecDepth 10000
set_option maxHeartbeats 80000000
structure Ab where
 op : Int
 body : ByteArray
section
variable {H : Type} {enc : TypeId × Value → H} {W : World}
end
end Go.Proofs.YtgednnjmcjhfmaaGreatDoor
namespace Go.Proofs.YtgednnjmcjhfmaaGreatDoor
open Go.RowKit
set_option maxRecDepth 10000
set_option maxHeartbeats 80000000
/-! ### takeAll -/
/-- how many there are -/
def num0 (s : List UInt8) : Nat := (s.getD 0 0).toNat
/-- what PutText answers -/
def ptS (bs ss : List UInt8) : List UInt8 × Int := if 65535 < ss.length then ([], 5) else (bs ++ le ss.length 2 ++ ss, 0)
theorem pt_long (A : Option Addr) (l c : Nat) (s : ByteArray) (w : World) (h : 65535 < (s.size : Int)) :
  Calls Tryz.prog 108 #[.slice A l c, .string s] w (BE w ([], 5)) := by
 go_enter Tryz.func108, Tryz.ntmps108
 go_wp2_with fail
 go_ret2
 exact ⟨none, 0, rfl, World.ownsRow_nil _ _ _ _, Below.refl _ _⟩
theorem pt_ok (A : Option Addr) (bs : List UInt8) (l c B : Nat) (s : ByteArray) (w : World) (hr : Rd w B A (bvs bs)) (hl : l = bs.length) (hB : B ≤ w.heap.size) (hl2 : l ≤ 140737488200000) (h : (s.size : Int) ≤ 65535) :
  Calls Tryz.prog 108 #[.slice A l c, .string s] w (BE w (bs ++ le s.size 2 ++ sb s, 0)) := by
 obtain ⟨i0, hi, hz0, hz1, hz2⟩ := info_parts u8info
 have HL := hid hl
 clear hl
 go_enter Tryz.func108, Tryz.ntmps108
 go_wp2_with (first
  | (go_at_call 107; have L := lay_any A bs l c s.size 2 B w hr HL.out (by omega) hB (by omega); refine L.mono ?_; clear L; rintro e w1 ⟨g, rfl, hg, hrow, hbe⟩; have hown := hrow.own (B := w.heap.size) hg (le_maxLen (by rw [bvs_len, List.length_append, le_len, ← HL.out]; omega)); have HLL : (bvs (bs ++ le s.size 2)).length = l + 2 := (by simp [bvs_len, le_len, HL.out]); rw [HLL] at hown; clear HLL)
  | (with_reducible refine wpl_append_str rfl (.tmp 13) (.tmp 14) 85 9 rfl w.heap.size 5 i0 Tryz.underlying85 Tryz.underlying9 hi hz0 hz1 hz2 (.slice (some ⟨g, 0, none⟩) (l + 2) (l + 2)) (l + 2) _ rfl hown s rfl ?_ ?_ ?_ ?_; intro v' w2 hown2 hb2 hg2))
 rotate_left
 ·
  exact hid (le_maxLen (by omega))
 ·
  exact hid (by omega)
 ·
  exact hid hbe.size
 go_ret2
 rw [← bvs_app] at hown2
 exact BE_own (by simp [le_len, HL.out, sb_len]; omega) hown2 (hbe.trans hb2)
theorem pt_any (A : Option Addr) (bs : List UInt8) (l c B : Nat) (s : ByteArray) (w : World) (hr : Rd w B A (bvs bs)) (hl : l = bs.length) (hB : B ≤ w.heap.size) (hl2 : l ≤ 140737488200000) :
  Calls Tryz.prog 108 #[.slice A l c, .string s] w (BE w (ptS bs (sb s))) := by
 unfold ptS
 rw [sb_len]
 by_cases h : 65535 < s.size
 ·
  rw [if_pos h]
  exact pt_long A l c s w (by omega)
 ·
  rw [if_neg h]
  exact pt_ok A bs l c B s w hr hl hB hl2 (by omega)
theorem rpt_long (A : Option Addr) (l c : Nat) (s : ByteArray) (w : World) (h : 65535 < (s.size : Int)) :
  Calls Tryz.prog 46 #[.slice A l c, .string s] w (BE w ([], 5)) := by
 go_enter Tryz.func46, Tryz.ntmps46
 go_wp2_with fail
 go_ret2
 exact ⟨none, 0, rfl, World.ownsRow_nil _ _ _ _, Below.refl _ _⟩
theorem putS_two (bs : List UInt8) (n : Nat) (h : n ≤ 65535) : putS bs n 2 = (bs ++ le n 2, 0) := by
 unfold putS
 rw [if_pos ⟨by omega, by omega, by simp; omega⟩]
 rfl
theorem sb_take (s : ByteArray) (k : Nat) (h : k < s.size) : (sb s).take (k + 1) = (sb s).take k ++ [s[k]] := by
 rw [List.take_succ_eq_append_getElem (by rw [sb_len]; exact h)]
 rfl
theorem rpt_ok (A : Option Addr) (bs : List UInt8) (l c B : Nat) (s : ByteArray) (w : World) (hr : Rd w B A (bvs bs)) (hl : l = bs.length) (hB : B ≤ w.heap.size) (hl2 : l ≤ 140737488200000) (h : (s.size : Int) ≤ 65535) :
  Calls Tryz.prog 46 #[.slice A l c, .string s] w (BE w (bs ++ le s.size 2 ++ sb s, 0)) := by
 obtain ⟨i0, hi, hz0, hz1, hz2⟩ := info_parts u8info
 have HL := hid hl
 clear hl
 have HP := hid (putS_two bs s.size (by omega))
 go_enter Tryz.func46, Tryz.ntmps46
 go_wp2_with (go_at_call 75; refine (rput_any A bs l c s.size B 2 _ hr HL.out hB (by omega) (hid (by omega))).mono ?_; rw [HP.out]; rintro e w1 hbe0; obtain ⟨A1, c1, rfl, hown, hbe⟩ := hbe0.len (n := l + 2) (by simp [le_len, HL.out]); clear hbe0)
 go_loopw [6, 8] (fun out i wr => ∃ k : Nat, k ≤ s.size ∧ i = .int .i64 k ∧ wr.ownsRow w.heap.size 5 1 out (l + 2 + k) (bvs (bs ++ le s.size 2 ++ (sb s).take k)) ∧ Below w.heap.size w wr) (fun _ i _ => s.size - (intOf i).toNat)
 case atStart =>
  refine ⟨0, by omega, rfl, ?_, hbe⟩
  simpa using hown
 case round =>
  obtain ⟨k, hk, rfl, hown, hbe'⟩ := hrel
  have hsz := hbe'.size
  by_cases hlt : k < s.size
  ·
   go_wp2_with (with_reducible refine wpl_append rfl (.tmp 26) (.tmp 30) 85 rfl w.heap.size 5 i0 _ 1 1 Tryz.underlying85 hi hz0 hz1 hz2 rfl (by omega) u6 (l + 2 + k) _ rfl (hown.alloc _) (wr.heap.size + 1) (some ⟨wr.heap.size, 0, none⟩) 1 1 [.int .u8 (s[k].toNat : Int)] rfl ?_ ?_ ?_ ?_ ?_ ?_ ?_; intro v' w2 hown2 hb2 hg2)
   rotate_left
   ·
    refine hid fun _ => ⟨_, _, rfl, by omega, ?_⟩
    intro j u hu
    match j, hu with
    | 0, hu => simp at hu; subst hu; simp
   ·
    exact hid rfl
   ·
    exact hid (by intro u hu; simp at hu; subst hu; rfl)
   ·
    exact hid (le_maxLen (by omega))
   ·
    exact hid (by omega)
   ·
    exact hid (by simp; omega)
   go_roundw
   case rel =>
    refine ⟨k + 1, by omega, by go_num, ?_, (hbe'.alloc hsz _).trans hb2⟩
    rw [sb_take s k hlt, ← List.append_assoc, bvs_app (bs ++ le s.size 2 ++ _)]
    exact hown2
   case measure => simp [intOf]; omega
  ·
   go_wp2_with fail
   go_ret2
   obtain rfl : k = s.size := by omega
   rw [List.take_of_length_le (by rw [sb_len]; omega)] at hown
   exact BE_own (by simp [le_len, HL.out, sb_len]; omega) hown hbe'
theorem rpt_any (A : Option Addr) (bs : List UInt8) (l c B : Nat) (s : ByteArray) (w : World) (hr : Rd w B A (bvs bs)) (hl : l = bs.length) (hB : B ≤ w.heap.size) (hl2 : l ≤ 140737488200000) :
  Calls Tryz.prog 46 #[.slice A l c, .string s] w (BE w (ptS bs (sb s))) := by
 unfold ptS
 rw [sb_len]
 by_cases h : 65535 < s.size
 ·
  rw [if_pos h]
  exact rpt_long A l c s w (by omega)
 ·
  rw [if_neg h]
  exact rpt_ok A bs l c B s w hr hl hB hl2 (by omega)
end Go.Proofs.YtgednnjmcjhfmaaGreatDoor
namespace Go.Proofs.YtgednnjmcjhfmaaGreatDoor
open Go.RowKit
set_option maxHeartbeats 80000000
structure Ss where
 c : Int
 s : Int
 r : Int
 o : Int
 t : ByteArray
def Ss.cells (x : Ss) : List Value := [.int .i64 x.c, .int .i64 x.s, .int .i64 x.r, .int .i64 x.o, .string x.t]
def ss0 : Ss := ⟨0, 0, 0, 0, ⟨#[]⟩⟩
theorem Ss.len (x : Ss) : x.cells.length = 5 := rfl
theorem Ss.one (x : Ss) : x.cells.all (·.oneCell') = true := rfl
theorem Ss.ones (x : Ss) : ∀ u ∈ x.cells, u.oneCell' = true := by
 intro u hu
 simp only [Ss.cells, List.mem_cons, List.not_mem_nil, or_false] at hu
 rcases hu with rfl | rfl | rfl | rfl | rfl <;> rfl
/-- a number that may be -/
abbrev Fit (n : Int) : Prop := 0 ≤ n ∧ n ≤ 72057594037927935
abbrev Fit1 (n : Int) : Prop := 1 ≤ n ∧ n ≤ 72057594037927935
structure Ss.ok (x : Ss) : Prop where
 c : Fit1 x.c
 s : Fit1 x.s
 r : Fit x.r
 o : Fit x.o
 t : x.t.size ≤ 200
structure WF (T : List Ss) : Prop where
 le : T.length ≤ 3
 ok : ∀ x ∈ T, x.ok
/-- no two of a client -/
def One (T : List Ss) : Prop := ∀ i j (hi : i < T.length) (hj : j < T.length), T[i].c = T[j].c → i = j
theorem nil_wf : WF [] := ⟨by simp, by simp⟩
theorem nil_one : One [] := fun i j hi => by simp at hi
/-- where a client's first one stands; behind the last, if there is none -/
def pl (T : List Ss) (c : Int) : Nat := T.findIdx (fun x => x.c == c)
theorem pl_le (T : List Ss) (c : Int) : pl T c ≤ T.length := List.findIdx_le_length
theorem pl_before {T : List Ss} {c : Int} {k : Nat} (h : k < pl T c) (hl : k < T.length) : T[k].c ≠ c := by
 have := List.not_of_lt_findIdx h
 simpa using this
theorem pl_here {T : List Ss} {c : Int} (h : pl T c < T.length) : T[pl T c].c = c := by
 have := List.findIdx_getElem (p := fun x : Ss => x.c == c) (w := h)
 exact eq_of_beq this
theorem pl_this {T : List Ss} {c : Int} {k : Nat} (hk : k ≤ pl T c) (hl : k < T.length) (h : T[k].c = c) : pl T c = k := by
 rcases Nat.lt_or_ge k (pl T c) with h1 | h1
 ·
  exact absurd h (pl_before h1 hl)
 ·
  omega
theorem pl_some {T : List Ss} {c : Int} {k : Nat} (hl : k < T.length) (h : T[k].c = c) : pl T c < T.length :=
 List.findIdx_lt_length_of_exists ⟨T[k], List.getElem_mem hl, by simp [h]⟩
theorem pl_no {T : List Ss} {c : Int} (h : ¬ pl T c < T.length) : ∀ x ∈ T, x.c ≠ c := fun x hx e => by
 obtain ⟨k, hk, rfl⟩ := List.getElem_of_mem hx
 exact h (pl_some hk e)
def at_8 (T : List Ss) (i : Nat) : Ss := T.getD i ss0
theorem at_get {T : List Ss} {i : Nat} (h : i < T.length) : at_8 T i = T[i] := by rw [at_8, List.getD, List.getElem?_eq_getElem h]; rfl
/-- the first of the least Op, of the first k -/
def lstK (T : List Ss) : Nat → Nat
 | 0 => 0
 | k + 1 => if (at_8 T k).o < (at_8 T (lstK T k)).o then k else lstK T k
theorem lstK_lt (T : List Ss) : ∀ k, 0 < k → lstK T k < k
 | 0, h => by omega
 | 1, _ => by unfold lstK; split <;> simp [lstK]
 | k + 2, _ => by
  have := lstK_lt T (k + 1) (by omega)
  rw [lstK]
  split <;> omega
theorem lstK_one (T : List Ss) : lstK T 1 = 0 := by unfold lstK; split <;> simp [lstK]
def lst (T : List Ss) : Nat := lstK T T.length
/-- there is room for one more; who goes for it -/
def room (T : List Ss) : List Ss := if T.length < 3 then T else T.eraseIdx (lst T)
def gone (T : List Ss) : Int := if T.length < 3 then 0 else (at_8 T (lst T)).c
theorem room_le {T : List Ss} (h : T.length ≤ 3) : (room T).length ≤ 2 := by
 unfold room
 split
 ·
  omega
 ·
  rw [List.length_eraseIdx]
  have := lstK_lt T T.length (by omega)
  unfold lst
  split <;> omega
theorem room_sub {T : List Ss} {x : Ss} (h : x ∈ room T) : x ∈ T := by
 unfold room at h
 split at h
 ·
  exact h
 ·
  exact List.mem_of_mem_eraseIdx h
def fresh (c o : Int) : Ss := ⟨c, o, 0, o, ⟨#[]⟩⟩
def opnE (T : List Ss) (c o : Int) : Int := if ¬ Fit1 c ∨ ¬ Fit1 o then 1 else if pl T c < T.length then 7 else 0
def opn (T : List Ss) (c o : Int) : List Ss := if opnE T c o = 0 then room T ++ [fresh c o] else T
def opnL (T : List Ss) (c o : Int) : Int := if opnE T c o = 0 then gone T else 0
theorem opnE_zero {T : List Ss} {c o : Int} (h : opnE T c o = 0) : Fit1 c ∧ Fit1 o ∧ ¬ pl T c < T.length := by
 unfold opnE at h
 by_cases h1 : ¬ Fit1 c ∨ ¬ Fit1 o
 ·
  rw [if_pos h1] at h; omega
 ·
  rw [if_neg h1] at h
  by_cases h2 : pl T c < T.length
  ·
   rw [if_pos h2] at h; omega
  ·
   refine ⟨?_, ?_, h2⟩ <;> omega
theorem opn_wf {T : List Ss} (h : WF T) (c o : Int) : WF (opn T c o) := by
 unfold opn
 split
 ·
  rename_i h0
  obtain ⟨h1, h2, h3⟩ := opnE_zero h0
  refine ⟨?_, ?_⟩
  ·
   have := room_le h.le
   rw [List.length_append]; simp; omega
  ·
   intro x hx
   rcases List.mem_append.1 hx with hx | hx
   ·
    exact h.ok x (room_sub hx)
   ·
    rw [List.mem_singleton.1 hx]
    exact ⟨h1, h2, ⟨by show (0 : Int) ≤ 0; omega, by show (0 : Int) ≤ _; omega⟩, ⟨by show 0 ≤ o; omega, h2.2⟩, by show 0 ≤ 200; omega⟩
 ·
  exact h
/-- what a request is -/
def ver (T : List Ss) (c s r : Int) : Int :=
 if ¬ pl T c < T.length then 5 else if (at_8 T (pl T c)).s ≠ s then 5 else if r = (at_8 T (pl T c)).r + 1 then 1 else if r = (at_8 T (pl T c)).r then 2 else if r < (at_8 T (pl T c)).r then 3 else 4
def notE (T : List Ss) (c r o : Int) (t : ByteArray) : Int := if ¬ pl T c < T.length then 8 else if ¬ Fit r ∨ ¬ Fit o then 1 else if 200 < t.size then 5 else 0
def noted (x : Ss) (r o : Int) (t : ByteArray) : Ss := ⟨x.c, x.s, r, o, t⟩
def note (T : List Ss) (c r o : Int) (t : ByteArray) : List Ss := if notE T c r o t = 0 then T.set (pl T c) (noted (at_8 T (pl T c)) r o t) else T
theorem notE_zero {T : List Ss} {c r o : Int} {t : ByteArray} (h : notE T c r o t = 0) : pl T c < T.length ∧ Fit r ∧ Fit o ∧ t.size ≤ 200 := by
 unfold notE at h
 by_cases h1 : ¬ pl T c < T.length
 ·
  rw [if_pos h1] at h; omega
 rw [if_neg h1] at h
 by_cases h2 : ¬ Fit r ∨ ¬ Fit o
 ·
  rw [if_pos h2] at h; omega
 rw [if_neg h2] at h
 by_cases h3 : 200 < t.size
 ·
  rw [if_pos h3] at h; omega
 refine ⟨?_, ?_, ?_, ?_⟩ <;> omega
theorem set_wf {T : List Ss} (h : WF T) (i : Nat) (y : Ss) (hy : y.ok) : WF (T.set i y) :=
 ⟨by rw [List.length_set]; exact h.le, fun x hx => by
  rcases List.mem_or_eq_of_mem_set hx with hx | rfl
  ·
   exact h.ok x hx
  ·
   exact hy⟩
theorem noted_ok {x : Ss} (h : x.ok) {r o : Int} {t : ByteArray} (hr : Fit r) (ho : Fit o) (ht : t.size ≤ 200) : (noted x r o t).ok := ⟨h.c, h.s, hr, ho, ht⟩
theorem note_wf {T : List Ss} (h : WF T) (c r o : Int) (t : ByteArray) : WF (note T c r o t) := by
 unfold note
 split
 ·
  rename_i h0
  obtain ⟨h1, h2, h3, h4⟩ := notE_zero h0
  refine set_wf h _ _ (noted_ok ?_ h2 h3 h4)
  rw [at_get h1]
  exact h.ok _ (List.getElem_mem h1)
 ·
  exact h
/-! ### an act -/
structure Ab8 where
 k : Int
 c : Int
 s : Int
 r : Int
 o : Int
 t : ByteArray
def doo (T : List Ss) (x : Ab8) : List Ss := if x.k = 1 then opn T x.c x.o else if x.k = 2 then note T x.c x.r x.o x.t else T
/-! ### one of a client -/
theorem one_sub {T U : List Ss} (h : One T) (hs : List.Sublist U T) : One U := by
 have hn : ∀ (L : List Ss), One L ↔ (L.map Ss.c).Nodup := by
  intro L
  rw [List.nodup_iff_pairwise_ne, List.pairwise_iff_getElem]
  constructor
  ·
   intro h i j hi hj hij e
   simp only [List.length_map] at hi hj
   simp only [List.getElem_map] at e
   have := h i j hi hj e
   omega
  ·
   intro h i j hi hj e
   rcases Nat.lt_trichotomy i j with h1 | h1 | h1
   ·
    have q := h i j (by simpa using hi) (by simpa using hj) h1
    rw [List.getElem_map, List.getElem_map] at q
    exact absurd e q
   ·
    exact h1
   ·
    have q := h j i (by simpa using hj) (by simpa using hi) h1
    rw [List.getElem_map, List.getElem_map] at q
    exact absurd e.symm q
 rw [hn] at h ⊢
 exact List.Nodup.sublist (hs.map _) h
theorem one_room {T : List Ss} (h : One T) : One (room T) := by
 unfold room
 split
 ·
  exact h
 ·
  exact one_sub h (List.eraseIdx_sublist _ _)
theorem one_snoc {T : List Ss} (h : One T) (x : Ss) (hx : ∀ y ∈ T, y.c ≠ x.c) : One (T ++ [x]) := by
 have hmem : ∀ i (hi : i < (T ++ [x]).length), (∃ h : i < T.length, (T ++ [x])[i] = T[i]) ∨ (i = T.length ∧ (T ++ [x])[i] = x) := by
  intro i hi
  by_cases h : i < T.length
  ·
   exact .inl ⟨h, List.getElem_append_left h⟩
  ·
   have e : i = T.length := by simp at hi; omega
   subst e
   exact .inr ⟨rfl, by simp⟩
 intro i j hi hj e
 rcases hmem i hi with ⟨hi2, ei⟩ | ⟨hi2, ei⟩
 ·
  rcases hmem j hj with ⟨hj2, ej⟩ | ⟨hj2, ej⟩
  ·
   simp only [ei, ej] at e
   exact h i j hi2 hj2 e
  ·
   simp only [ei, ej] at e
   exact absurd e (hx _ (List.getElem_mem hi2))
 ·
  rcases hmem j hj with ⟨hj2, ej⟩ | ⟨hj2, ej⟩
  ·
   simp only [ei, ej] at e
   exact absurd e.symm (hx _ (List.getElem_mem hj2))
  ·
   omega
theorem one_set {T : List Ss} (h : One T) (i : Nat) (y : Ss) (hi : i < T.length) (hy : y.c = T[i].c) : One (T.set i y) := by
 have hg : ∀ k (hk : k < (T.set i y).length), (T.set i y)[k].c = (T[k]'(by simpa using hk)).c := by
  intro k hk
  rw [List.getElem_set]
  split
  ·
   rename_i e
   subst e
   exact hy
  ·
   rfl
 intro a b ha hb e
 rw [hg a ha, hg b hb] at e
 exact h a b _ _ e
theorem opn_one {T : List Ss} (h : One T) (c o : Int) : One (opn T c o) := by
 unfold opn
 split
 ·
  rename_i h0
  obtain ⟨_, _, h3⟩ := opnE_zero h0
  exact one_snoc (one_room h) _ (fun y hy => pl_no h3 y (room_sub hy))
 ·
  exact h
theorem doo_one {T : List Ss} (h : One T) (x : Ab8) : One (doo T x) := by
 unfold doo
 split
 ·
  exact opn_one h _ _
 ·
  split
  ·
   unfold note
   split
   ·
    rename_i h0
    obtain ⟨h1, _⟩ := notE_zero h0
    exact one_set h _ _ h1 (by rw [at_get h1]; rfl)
   ·
    exact h
  ·
   exact h
/-! ### as bytes -/
def ssB (x : Ss) : List UInt8 := le x.c.toNat 8 ++ le x.s.toNat 8 ++ le x.r.toNat 8 ++ le x.o.toNat 8 ++ le x.t.size 2 ++ sb x.t
def pack (T : List Ss) : List UInt8 := UInt8.ofNat T.length :: T.flatMap ssB
theorem ssB_len (x : Ss) : (ssB x).length = 34 + x.t.size := by
 unfold ssB
 simp only [List.length_append, le_len, sb_len]
end Go.Proofs.YtgednnjmcjhfmaaGreatDoor
namespace Go.Proofs.YtgednnjmcjhfmaaGreatDoor
open Go.RowKit
set_option maxRecDepth 10000
set_option maxHeartbeats 80000000
section
variable {w w' w'' : World} {fp fq : List Nat}
end

/-- the table T lies at p, its type is X; its sessions are owned by v -/
structure HasT (w : World) (X : TypeId) (p : Nat) (v : Value) (T : List Ss) : Prop where
 box : Row w p X [v]
 own : w.ownsRow 0 75 5 v T.length (rows Ss.cells T)
 wf : WF T
 ty : X ≠ 75
/-- the blocks that it has -/
def fpT (p : Nat) (v : Value) : List Nat := p :: v.ownBlock.toList
theorem fpT_mem {p b : Nat} {v : Value} : b ∈ fpT p v ↔ b = p ∨ v.ownBlock = some b := by simp [fpT]
section
variable {w w' : World} {X p : Nat} {v : Value} {T : List Ss} {fp : List Nat}
theorem HasT.n1 (h : HasT w X p v T) : v.ownBlock ≠ some p := fun e => by
 obtain ⟨cur, hh⟩ := own_type h.own e
 have := h.box
 unfold Row at this
 rw [hh] at this
 simp only [Option.some.injEq, Obj.cells.injEq] at this
 exact h.ty this.2.1.symm
theorem HasT.fr (h : HasT w X p v T) (hf : Fr w w' fp) (hd : ∀ b ∈ fpT p v, b ∉ fp) : HasT w' X p v T :=
 ⟨hf.row h.box (hd p (by simp [fpT])), hf.own h.own (fun g hg => hd g (by simp [fpT, hg])), h.wf, h.ty⟩
theorem HasT.below (h : HasT w X p v T) (hb : Below w.heap.size w w') : HasT w' X p v T := h.fr (Fr.of_below hb) (by simp)
theorem HasT.lt (h : HasT w X p v T) : ∀ b ∈ fpT p v, b < w.heap.size := by
 intro b hb
 rcases fpT_mem.1 hb with rfl | hb
 ·
  exact h.box.lt
 ·
  exact (h.own.lt b hb).2
theorem HasT.c0 (h : HasT w X p v T) : w.cell? ⟨p, 0, none⟩ = some v := h.box.at_ 0 _ rfl
theorem HasT.f (h : HasT w X p v T) (i : Nat) : w.frozen? ⟨p, i, none⟩ = false := h.box.frozen i
theorem HasT.shape (h : HasT w X p v T) : ∃ A c, v = .slice A T.length c ∧ T.length ≤ c ∧ Rd w w.heap.size A (rows Ss.cells T) := own_rd h.own
end

/-- the table S lies at p, in the blocks fp -/
def Gk8 (X p : Nat) (S : List Ss) (fp : List Nat) (w : World) : Prop := ∃ v, fp = fpT p v ∧ HasT w X p v S
/-- since w, where it lay in fp, the table is S now -/
def Gw8 (X p : Nat) (w : World) (fp : List Nat) (S : List Ss) (wr : World) : Prop := ∃ fq, Gk8 X p S fq wr ∧ Fr w wr fp ∧ ∀ g ∈ fq, g ∈ fp ∨ w.heap.size ≤ g
section
variable {w w' w'' : World} {X p : Nat} {S S' : List Ss} {fp fq : List Nat}
theorem Gk8.fr (h : Gk8 X p S fp w) (hf : Fr w w' fq) (hd : ∀ b ∈ fp, b ∉ fq) : Gk8 X p S fp w' := by
 obtain ⟨v, rfl, h⟩ := h
 exact ⟨v, rfl, h.fr hf hd⟩
theorem Gk8.below (h : Gk8 X p S fp w) (hb : Below w.heap.size w w') : Gk8 X p S fp w' := h.fr (Fr.of_below hb) (by simp)
theorem Gk8.lt (h : Gk8 X p S fp w) : ∀ b ∈ fp, b < w.heap.size := by
 obtain ⟨v, rfl, h⟩ := h
 exact h.lt
theorem Gw8.start (h : Gk8 X p S fp w) : Gw8 X p w fp S w := ⟨fp, h, Fr.refl _ _, fun _ hg => .inl hg⟩
theorem Gw8.kept (h : Gw8 X p w fp S w') (hf : Fr w' w'' []) : Gw8 X p w fp S w'' := by
 obtain ⟨fq, h1, h2, h3⟩ := h
 exact ⟨fq, h1.fr hf (by simp), h2.trans hf (by simp), h3⟩
theorem Gw8.below (h : Gw8 X p w fp S w') (hb : Below w'.heap.size w' w'') : Gw8 X p w fp S w'' := h.kept (Fr.of_below hb)
/-- one thing behind another -/
theorem Gw8.step (h : Gw8 X p w fp S w') (hn : ∀ fq, Gk8 X p S fq w' → Gw8 X p w' fq S' w'') : Gw8 X p w fp S' w'' := by
 obtain ⟨fq, h1, h2, h3⟩ := h
 obtain ⟨fr, k1, k2, k3⟩ := hn fq h1
 have hs := h2.size
 refine ⟨fr, k1, h2.trans k2 (fun b hb hlt => ?_), fun g hg => ?_⟩
 ·
  rcases h3 b hb with h | h
  ·
   exact h
  ·
   omega
 ·
  rcases k3 g hg with h | h
  ·
   exact h3 g h
  ·
   right; omega
end

section
variable {w : World} {X p : Nat} {v : Value} {T : List Ss}
theorem HasT.turn (h : HasT w X p v T) {g : Nat} (hg : v.ownBlock = some g) (i j : Nat) (u : Value) (y : Ss) (hi : i < T.length) (hj : j < 5) (hy : (Ss.cells T[i]).set j u = Ss.cells y) (hf : y.ok) :
  HasT (w.setCell ⟨g, i * 5 + j, none⟩ u) X p v (T.set i y) := by
 have hl := rows_len (C := Ss.cells) Ss.len T
 have hne : g ≠ p := fun e => h.n1 (by rw [hg, e])
 have h1 := own_set h.own hg (i * 5 + j) u (by omega)
 rw [rows_set Ss.len T i j u y hi hj hy] at h1
 exact ⟨h.box.far (by exact Ne.symm hne) u, by simpa using h1, set_wf h.wf i y hf, h.ty⟩
theorem HasT.cell (h : HasT w X p v T) {g : Nat} (hg : v.ownBlock = some g) (i j : Nat) (hi : i < T.length) (hj : j < 5) : w.cell? ⟨g, i * 5 + j, none⟩ = (Ss.cells T[i])[j]? := by
 have hl := rows_len (C := Ss.cells) Ss.len T
 have h1 := rows_get Ss.len T i j hi hj
 have h2 : (Ss.cells T[i])[j]? = some ((Ss.cells T[i])[j]'(by rw [Ss.len]; exact hj)) := List.getElem?_eq_getElem _
 rw [h2]
 have := h.own.cells hg (i * 5 + j) _ (h1.trans h2)
 rw [add_lit, Nat.zero_add] at this
 exact this
theorem HasT.frozen (h : HasT w X p v T) {g : Nat} (hg : v.ownBlock = some g) (i : Nat) : w.frozen? ⟨g, i, none⟩ = false := by
 obtain ⟨cur, hh⟩ := own_type h.own hg
 exact frozen_of_row w g i cur _ hh
theorem HasT.range (h : HasT w X p v T) {g : Nat} (hg : v.ownBlock = some g) (i : Nat) (hi : i < T.length) : w.rangeAt g (i * 5) (Ss.cells T[i]) := fun j u hu => by
 have hj : j < 5 := by
  have := (List.getElem?_eq_some_iff.1 hu).1
  rw [Ss.len] at this
  exact this
 rw [h.cell hg i j hi hj, hu]
theorem Fr.turn8 {g : Nat} (w : World) (j : Nat) (u : Value) (hg : v.ownBlock = some g) : Fr w (w.setCell ⟨g, j, none⟩ u) (fpT p v) := (Fr.refl w _).setCell (p := ⟨g, j, none⟩) (.inl (by simp [fpT, hg])) u
/-- another list is stored -/
theorem HasT.put (h : HasT w X p v T) {w1 : World} {v' : Value} {T' : List Ss} (hf : Fr w w1 v.ownBlock.toList) (ho : w1.ownsRow 0 75 5 v' T'.length (rows Ss.cells T')) (hat : ∀ g, v'.ownBlock = some g → v.ownBlock = some g ∨ w.heap.size ≤ g)
  (hS : WF T') :
  HasT (w1.setCell ⟨p, 0, none⟩ v') X p v' T' ∧ Fr w (w1.setCell ⟨p, 0, none⟩ v') (fpT p v) ∧ ∀ b ∈ fpT p v', b ∈ fpT p v ∨ w.heap.size ≤ b := by
 have hn1 := h.n1
 have hb1 : Row w1 p X [v] := hf.row h.box (by simpa using hn1)
 have hp' : v'.ownBlock ≠ some p := fun e => by
  rcases hat p e with h1 | h1
  ·
   exact hn1 h1
  ·
   have := h.box.lt; omega
 have hf2 : Fr w1 (w1.setCell ⟨p, 0, none⟩ v') [p] := (Fr.refl w1 [p]).setCell (p := ⟨p, 0, none⟩) (.inl (by simp)) v'
 refine ⟨⟨hb1.set_ 0 v', hf2.own ho (fun g hg => by simp; rintro rfl; exact hp' hg), hS, h.ty⟩, ?_, ?_⟩
 ·
  exact (hf.mono (fun b hb => by simp at hb; simp [fpT, hb])).trans hf2 (by intro b hb _; simp at hb; simp [fpT, hb])
 ·
  intro b hb
  rcases fpT_mem.1 hb with rfl | hb
  ·
   exact .inl (by simp [fpT])
  ·
   rcases hat b hb with h1 | h1
   ·
    exact .inl (by simp [fpT, h1])
   ·
    exact .inr h1
end

section
variable {w0 w w' : World} {X p Y q : Nat} {S S' T T' : List Ss} {P : Program} {f : FuncId} {args : Array Value} {v : Ending}
end

section
variable {w0 w w' : World} {X p : Nat} {S S' : List Ss} {A : Option Addr} {xs : List Value}
end
/-- a new table, all of it in new memory -/
def NG8 (X : Nat) (w : World) (S : List Ss) (v : Nat → Value) (e : Ending) (w' : World) : Prop := ∃ p fp, e = .returned (v p) ∧ Gk8 X p S fp w' ∧ (∀ b ∈ fp, w.heap.size ≤ b) ∧ Below w.heap.size w w'
theorem nil_has8 {w : World} {X p : Nat} (hr : Row w p X [.slice none 0 0]) (ty : X ≠ 75) : HasT w X p (.slice none 0 0) [] :=
 ⟨hr, World.ownsRow_nil _ _ _ _, nil_wf, ty⟩
theorem ssSize : (Tryz.prog.info? 75).map (·.size) = some 5 := by kernel_rfl
theorem ssInfo : (Tryz.prog.info? 75).map (fun i => (i.zero, i.size, i.bytes)) = some (some (.agg ss0.cells.toArray), 5, 48) := by kernel_rfl
theorem new_any8 (w : World) : Calls Tryz.prog 26 #[] w (NG8 94 w [] (fun p => .pointer (some ⟨p, 0, none⟩))) := by
 go_enter Tryz.func26, Tryz.ntmps26
 go_wp2_with fail
 go_ret
 refine ⟨w.heap.size, _, rfl, ⟨_, rfl, nil_has8 (Row.new w _ #[.slice none 0 0]) (by decide)⟩, ?_, (Below.refl _ _).alloc (Nat.le_refl _) _⟩
 intro b hb
 simp [fpT, Value.ownBlock] at hb
 omega
end Go.Proofs.YtgednnjmcjhfmaaGreatDoor
