/-
  Small words that the texts of this seat share: structs held against each other, loaded, stored, told.
-/
import Derived.Test.YtogchfpecbmocaaM05
import Derived.Test.YtogchfpecbmocaaM06
import Derived.Laws.StructEq
import Derived.BigFrame
import Derived.Laws.IdiomCopy
import Derived.Deep.RegionHeld
namespace Go.Proofs.Ytogchfpecbmocaa
open Go.RowKit
set_option maxRecDepth 10000

def In64 (x : Int) : Prop := -9223372036854775808 ≤ x ∧ x ≤ 9223372036854775807
/-- a value, and what was there is as it was -/
def VE (w : World) (v : Value) (e : Ending) (w' : World) : Prop := e = .returned v ∧ Below w.heap.size w w'
theorem alloc2_new (w : World) (o1 o2 : Obj) : ((w.alloc o1).alloc o2).heap[w.heap.size + 1]? = some o2 := by
  have := heap_alloc_new (w.alloc o1) o2
  simpa using this
theorem eqF_int {P : Program} {W : World} (d : Nat) (xs ys : Array Value) (f : Field) (fs : List Field) (k : IntKind) (a b : Int) (hn : f.name ≠ "_") (hx : (part f.type xs f.offset).run P W = .ok (.int k a) W) (hy : (part f.type ys f.offset).run P W = .ok (.int k b) W) (ht : P.underlying f.type = some (.int k)) :
    (Op.eqFields (d + 1) xs ys (f :: fs)).run P W = if a = b then (Op.eqFields (d + 1) xs ys fs).run P W else .ok false W := by
  simp only [Op.eqFields, if_pos hn, Sem.run_bind, hx, hy, Result.andThen_ok, run_equalIn_int W d f.type k k a b ht]
  by_cases h : a = b
  · subst h
    simp
  · simp [h]
theorem eqF_nil {P : Program} {W : World} (d : Nat) (xs ys : Array Value) : (Op.eqFields d xs ys []).run P W = .ok true W := by simp [Op.eqFields]
theorem part_int {P : Program} {W : World} (t : TypeId) (xs : Array Value) (i : Nat) (v : Value) (ik : IntKind) (ht : P.underlying t = some (.int ik)) (hs : (P.info? t).map (·.size) = some 1) (hv : xs[i]? = some v) : (part t xs i).run P W = .ok v W := by
  obtain ⟨j, hj, hjs⟩ := Option.map_eq_some_iff.1 hs
  simp [part, isAgg, run_underlying ht, sizeOf, typeInfo, hj, hjs, hv]
theorem sizeInt : (Try.prog.info? 3).map (·.size) = some 1 := by kernel_rfl
theorem sizeU64 : (Try.prog.info? 22).map (·.size) = some 1 := by kernel_rfl
theorem part_str {P : Program} {W : World} (t : TypeId) (xs : Array Value) (i : Nat) (v : Value) (ht : P.underlying t = some .string) (hs : (P.info? t).map (·.size) = some 1) (hv : xs[i]? = some v) : (part t xs i).run P W = .ok v W := by
  obtain ⟨j, hj, hjs⟩ := Option.map_eq_some_iff.1 hs
  simp [part, isAgg, run_underlying ht, sizeOf, typeInfo, hj, hjs, hv]
theorem sizeStr : (Try.prog.info? 9).map (·.size) = some 1 := by kernel_rfl
theorem eqF_strs {P : Program} {W : World} (d : Nat) (xs ys : Array Value) (f : Field) (fs : List Field) (a b : ByteArray) (hn : f.name ≠ "_") (hx : (part f.type xs f.offset).run P W = .ok (.string a) W) (hy : (part f.type ys f.offset).run P W = .ok (.string b) W) (ht : P.underlying f.type = some .string) :
    (Op.eqFields (d + 1) xs ys (f :: fs)).run P W = if a = b then (Op.eqFields (d + 1) xs ys fs).run P W else .ok false W := by
  simp only [Op.eqFields, if_pos hn, Sem.run_bind, hx, hy, Result.andThen_ok, run_equalIn_string W d f.type a b ht]
  by_cases h : a = b
  · subst h
    simp
  · have h2 := str_ne h
    simp [h, h2]
theorem Row.arr {w : World} {g : Nat} {e : TypeId} {cs : Array Value} (h : Row w g e cs.toList) : w.heap[g]? = some (.cells cs e (0, 0)) := by simpa [Row] using h
/-- a load under a guard that says yes -/
theorem wpl_load_want {P : Program} {ops : Array Oper} {rest : List Oper} {o : Oper} {a : Act} {w : World} {Q : Exit → Act → World → Prop} (hw : Region.wanted o (yielded ops a.tmps) = true) (ty : TypeId) (x : Operand) (ho : o.op = .load ty x)
    (g : Nat) (hx : a.eval x = .pointer (some ⟨g, 0, none⟩)) (t : TypeId) (cs : Array Value) (fr : Nat × Nat) (d : TypeDesc) (hg : w.heap[g]? = some (.cells cs t fr))
    (hu : P.underlying ty = some d) (hd : (match d with | .struct _ | .array _ _ => true | _ => false) = true) (hi : (P.info? ty).map (·.size) = some cs.size)
    (h : wpList P ops Q rest (a.put o.dst (.agg cs)) w) : wpList P ops Q (o :: rest) a w :=
  BigFrame.wpList_want hw fun _ hK => wp_load_row ty x ho g hx t cs fr d hg hu hd hi (hK _ _ h)
/-- a store of a struct -/
theorem wpl_store_st {P : Program} {ops : Array Oper} {rest : List Oper} {o : Oper} {a : Act} {w : World} {Q : Exit → Act → World → Prop} (hgd : o.guard = none) {T : TypeId} (x y : Operand) (ho : o.op = .store T x y) {n : Nat} (hn : (P.info? T).map (·.size) = some n)
    (g : Nat) (cs0 cs : Array Value) (hx : a.eval x = .pointer (some ⟨g, 0, none⟩)) (hy : a.eval y = .agg cs) (hrow : Row w g T cs0.toList)
    (hK : ∀ w', Row w' g T cs.toList → w.grownBy w' (some g) → wpList P ops Q rest (a.put o.dst undef) w')
    (h0 : Hid (cs0.size = n)) (h1 : Hid (cs.size = n)) (hone : Hid (cs.all (·.oneCell') = true)) : wpList P ops Q (o :: rest) a w :=
  wpList_plain hgd fun _ hK' => wp_store_row T x y ho g cs hx hy T cs0 hrow.arr (by rw [hn, h1.out]) (by simp [h0.out, h1.out]) (by simpa using hone.out)
    (hK' _ _ (hK _ (by
      have := setRow_heap w g cs0 cs T (0, 0) hrow.arr
      simpa [Row] using this) (grownBy_setRow w g _)))
/-- a store of one cell -/
theorem wpl_store_c {P : Program} {ops : Array Oper} {rest : List Oper} {o : Oper} {a : Act} {w : World} {Q : Exit → Act → World → Prop} (hgd : o.guard = none) (T : TypeId) (x y : Operand) (ho : o.op = .store T x y)
    (g i : Nat) (v : Value) (hx : a.eval x = .pointer (some ⟨g, i, none⟩)) (hy : a.eval y = v) {E : TypeId} {xs : List Value} (hrow : Row w g E xs) (hs : (P.info? T).map (·.size) = some 1)
    (hK : ∀ w', Row w' g E (xs.set i v) → w.grownBy w' (some g) → wpList P ops Q rest (a.put o.dst undef) w')
    (hi : Hid (i < xs.length)) (hone : Hid (v.oneCell' = true)) : wpList P ops Q (o :: rest) a w :=
  wpList_plain hgd fun _ hK' => by
    have h1 := run_storeCells_cells (P := P) g i [v] 0 w (fun j hj => by
      have : j = 0 := by simpa using hj
      subst this
      show (w.cell? ⟨g, i, none⟩).isSome = true
      rw [hrow.cell, List.getElem?_eq_getElem hi.out]; rfl) (fun j hj => hrow.frozen _) (fun u hu => by rw [List.mem_singleton.1 hu]; exact hone.out)
    have hc : v.cells = #[v] := by
      have := hone.out
      cases v <;> first | rfl | cases this
    have hrun : (storeVar T ⟨g, i, none⟩ v).run P w = .ok () (w.setCell ⟨g, i, none⟩ v) := by
      obtain ⟨j, hj, hjs⟩ := Option.map_eq_some_iff.1 hs
      simp only [Nat.add_zero] at h1
      simp [storeVar, sizeOf, typeInfo, hj, hjs, hc, h1]
      rfl
    unfold Oper.wp execOp
    simp only [ho, hx, hy, Instr.storeAt, Instr.sureAddr, Sem.run_bind, Sem.run_pure, Result.andThen_ok, hrun]
    exact hK' _ _ (hK _ (hrow.set_ i v) ⟨rfl, rfl, rfl, by simp, fun k _ hr => heap_setCell_other w ⟨g, i, none⟩ k v (by intro e; exact hr (by rw [e]))⟩)
theorem results_cell1 {P : Program} {fn : Func} {p u : Tmp} {ty : TypeId} (h : fn.results = #[.cell p ty, .tmp u]) (tmps : Array Value) (w : World) (g : Nat) (e : TypeId) (cs : Array Value) (fr : Nat × Nat) (d : TypeDesc) (y : Value)
    (hy : tmps.getD u undef = y) (hp : tmps.getD p undef = .pointer (some ⟨g, 0, none⟩)) (hg : w.heap[g]? = some (.cells cs e fr))
    (hu : P.underlying ty = some d) (hd : (match d with | .struct _ | .array _ _ => true | _ => false) = true) (hi : (P.info? ty).map (·.size) = some cs.size) :
    (results fn tmps).run P w = .ok (.tuple #[.agg cs, y]) w := by
  subst hy
  have hp' : tmps[p]?.getD undef = .pointer (some ⟨g, 0, none⟩) := by simpa using hp
  simp [results, h, hp', asAddr, run_loadVar_row w g e ty cs fr d hg hu hd hi]
end Go.Proofs.Ytogchfpecbmocaa
/-
  Plain words on superblocks: their numbers, their bytes, what a sector has.
-/
namespace Go.Proofs.Ytogchfpecbmocaa
open Go.RowKit
set_option maxRecDepth 10000

/-- an int's bits as a number -/
def un (x : Int) : Nat := (IntKind.u64.wrap x).toNat
theorem un_in {x : Int} (h0 : 0 ≤ x) (h1 : x ≤ 18446744073709551615) : un x = x.toNat := by
  unfold un
  rw [IntWalk.u64_in x ⟨h0, by omega⟩]
theorem un_wrap (x : Int) : IntKind.u64.wrap x = ((un x : Nat) : Int) := by
  unfold un
  have : 0 ≤ IntKind.u64.wrap x := by rw [IntKind.wrap_u64]; omega
  omega
theorem un_eq (x : Int) : ((un x : Nat) : Int) = x % 18446744073709551616 := by rw [← un_wrap, IntKind.wrap_u64]
theorem un_lt (x : Int) : un x < 18446744073709551616 := by have := un_eq x; omega
/-- a number's bits as an int -/
def sg (n : Nat) : Int := wrap64 (n : Int)
theorem sg_eq (n : Nat) (h : n < 18446744073709551616) : sg n = if n < 9223372036854775808 then (n : Int) else (n : Int) - 18446744073709551616 := by
  unfold sg wrap64
  split <;> omega
theorem un_sg (n : Nat) (h : n < 18446744073709551616) : un (sg n) = n := by
  have h1 := un_eq (sg n)
  have h2 := sg_eq n h
  generalize un (sg n) = m at *
  generalize sg n = z at *
  split at h2 <;> omega
theorem sg_un (x : Int) (h : In64 x) : sg (un x) = x := by
  have h1 := un_eq x
  have h2 := un_lt x
  obtain ⟨h3, h4⟩ := h
  rw [sg_eq _ h2]
  split <;> omega

/-- a superblock -/
structure Su where
  seq : Int
  who : Int
  count : Int
  view : Int
  logV : Int
  cop : Int
  cview : Int
  csum : Nat
  area : Int
  size : Int
  s0 : Nat
  s1 : Nat
  s2 : Nat
  s3 : Nat
  s4 : Nat
  s5 : Nat
  parent : Nat
deriving DecidableEq
def Su.cells (s : Su) : Array Value := #[.int .i64 s.seq, .int .i64 s.who, .int .i64 s.count, .int .i64 s.view, .int .i64 s.logV, .int .i64 s.cop, .int .i64 s.cview, .int .u64 (s.csum : Int), .int .i64 s.area, .int .i64 s.size,
  .int .u64 (s.s0 : Int), .int .u64 (s.s1 : Int), .int .u64 (s.s2 : Int), .int .u64 (s.s3 : Int), .int .u64 (s.s4 : Int), .int .u64 (s.s5 : Int), .int .u64 (s.parent : Int)]
def Su.val (s : Su) : Value := .agg s.cells
def su0 : Su := ⟨0, 0, 0, 0, 0, 0, 0, 0, 0, 0, 0, 0, 0, 0, 0, 0, 0⟩
abbrev U64 (n : Nat) : Prop := n < 18446744073709551616
/-- of the machine's -/
def Su.fits (s : Su) : Prop := (In64 s.seq ∧ In64 s.who ∧ In64 s.count ∧ In64 s.view ∧ In64 s.logV) ∧ (In64 s.cop ∧ In64 s.cview ∧ In64 s.area ∧ In64 s.size) ∧ (U64 s.csum ∧ U64 s.s0 ∧ U64 s.s1 ∧ U64 s.s2) ∧ (U64 s.s3 ∧ U64 s.s4 ∧ U64 s.s5 ∧ U64 s.parent)
theorem su0_fits : su0.fits := by unfold Su.fits su0 In64 U64; simp
/-- its numbers -/
def Su.nums (s : Su) : List Nat := [un s.seq, un s.who, un s.count, un s.view, un s.logV, un s.cop, un s.cview, s.csum, un s.area, un s.size, s.s0, s.s1, s.s2, s.s3, s.s4, s.s5, s.parent]
def av (l : List Nat) : List Value := l.map fun (n : Nat) => .int .u64 (n : Int)
theorem av_len (l : List Nat) : (av l).length = l.length := by simp [av]
theorem av_get (l : List Nat) (k : Nat) (h : k < l.length) : (av l)[k]? = some (.int .u64 ((l[k] : Nat) : Int)) := by simp [av, h]
theorem av_set (l : List Nat) (k n : Nat) : (av l).set k (.int .u64 (n : Int)) = av (l.set k n) := by simp [av, List.map_set]
theorem av_one (l : List Nat) : ∀ u ∈ av l, u.oneCell' = true := by
  intro u hu
  simp only [av, List.mem_map] at hu
  obtain ⟨b, _, rfl⟩ := hu
  rfl
theorem nums_len (s : Su) : s.nums.length = 17 := rfl
theorem nums_lt (s : Su) (h : s.fits) : ∀ n ∈ s.nums, n < 18446744073709551616 := by
  obtain ⟨-, -, ⟨a0, a1, a2, a3⟩, a4, a5, a6, a7⟩ := h
  intro n hn
  simp only [Su.nums, List.mem_cons, List.not_mem_nil, or_false] at hn
  rcases hn with rfl | rfl | rfl | rfl | rfl | rfl | rfl | rfl | rfl | rfl | rfl | rfl | rfl | rfl | rfl | rfl | rfl <;> first | exact un_lt _ | assumption
/-- the bytes of numbers -/
def nb : List Nat → List UInt8
  | [] => []
  | n :: r => le n 8 ++ nb r
theorem nb_len : ∀ l, (nb l).length = 8 * l.length
  | [] => rfl
  | n :: r => by simp [nb, le_len, nb_len r]; omega
theorem nb_app : ∀ a b, nb (a ++ b) = nb a ++ nb b
  | [], b => rfl
  | n :: r, b => by simp [nb, nb_app r b]
/-- the numbers of bytes -/
def tn (b : List UInt8) (k : Nat) : Nat := leV ((b.drop (8 * k)).take 8)
def takeU (b : List UInt8) : List Nat := (List.range 17).map (tn b)
theorem takeU_len (b : List UInt8) : (takeU b).length = 17 := by simp [takeU]
theorem leV8_lt (l : List UInt8) (h : l.length ≤ 8) : leV l < 18446744073709551616 := by
  have h1 : ∀ m : List UInt8, leV m < 2 ^ (8 * m.length) := by
    intro m
    induction m with
    | nil => simp [leV]
    | cons b r ih =>
      have := UInt8.toNat_lt b
      have e : 2 ^ (8 * (r.length + 1)) = 256 * 2 ^ (8 * r.length) := by rw [show 8 * (r.length + 1) = 8 + 8 * r.length by omega, Nat.pow_add]
      simp only [leV, List.length_cons, e]
      omega
  exact Nat.lt_of_lt_of_le (h1 l) (Nat.le_trans (Nat.pow_le_pow_right (by omega) (show 8 * l.length ≤ 64 by omega)) (by decide))
theorem tn_lt (b : List UInt8) (k : Nat) : tn b k < 18446744073709551616 := leV8_lt _ (by simp; omega)
theorem takeU_lt (b : List UInt8) : ∀ n ∈ takeU b, n < 18446744073709551616 := by
  intro n hn
  simp only [takeU, List.mem_map] at hn
  obtain ⟨k, _, rfl⟩ := hn
  exact tn_lt b k
theorem le_back : ∀ bs : List UInt8, le (leV bs) bs.length = bs
  | [] => rfl
  | b :: r => by
    have h1 := UInt8.toNat_lt b
    simp only [leV, List.length_cons, le]
    congr 1
    · apply UInt8.toNat_inj.1
      simp <;> omega
    · rw [show (b.toNat + 256 * leV r) / 256 = leV r by omega]
      exact le_back r
/-- the superblock of numbers -/
def suOf (l : List Nat) : Su := ⟨sg (l.getD 0 0), sg (l.getD 1 0), sg (l.getD 2 0), sg (l.getD 3 0), sg (l.getD 4 0), sg (l.getD 5 0), sg (l.getD 6 0), l.getD 7 0, sg (l.getD 8 0), sg (l.getD 9 0), l.getD 10 0, l.getD 11 0, l.getD 12 0, l.getD 13 0, l.getD 14 0, l.getD 15 0, l.getD 16 0⟩
theorem list17 (l : List Nat) (h : l.length = 17) : ∃ a b c d e f g i j k m n o p q r s, l = [a, b, c, d, e, f, g, i, j, k, m, n, o, p, q, r, s] := by
  match l, h with
  | [a, b, c, d, e, f, g, i, j, k, m, n, o, p, q, r, s], _ => exact ⟨a, b, c, d, e, f, g, i, j, k, m, n, o, p, q, r, s, rfl⟩
theorem suOf_nums (l : List Nat) (h : l.length = 17) (h2 : ∀ n ∈ l, n < 18446744073709551616) : (suOf l).nums = l := by
  obtain ⟨a, b, c, d, e, f, g, i, j, k, m, n, o, p, q, r, s, rfl⟩ := list17 l h
  simp only [List.mem_cons, List.not_mem_nil, or_false, forall_eq_or_imp, forall_eq] at h2
  obtain ⟨u0, u1, u2, u3, u4, u5, u6, u7, u8, u9, u10, u11, u12, u13, u14, u15, u16⟩ := h2
  show [un (sg a), un (sg b), un (sg c), un (sg d), un (sg e), un (sg f), un (sg g), i, un (sg j), un (sg k), m, n, o, p, q, r, s] = _
  rw [un_sg a u0, un_sg b u1, un_sg c u2, un_sg d u3, un_sg e u4, un_sg f u5, un_sg g u6, un_sg j u8, un_sg k u9]
theorem nums_suOf (s : Su) (h : s.fits) : suOf s.nums = s := by
  obtain ⟨⟨a0, a1, a2, a3, a4⟩, ⟨a5, a6, a7, a8⟩, -, -⟩ := h
  obtain ⟨seq, who, count, view, logV, cop, cview, csum, area, size, t0, t1, t2, t3, t4, t5, parent⟩ := s
  show Su.mk (sg (un seq)) (sg (un who)) (sg (un count)) (sg (un view)) (sg (un logV)) (sg (un cop)) (sg (un cview)) csum (sg (un area)) (sg (un size)) t0 t1 t2 t3 t4 t5 parent = _
  rw [sg_un seq a0, sg_un who a1, sg_un count a2, sg_un view a3, sg_un logV a4, sg_un cop a5, sg_un cview a6, sg_un area a7, sg_un size a8]
theorem suOf_fits (l : List Nat) (h : l.length = 17) (h2 : ∀ n ∈ l, n < 18446744073709551616) : (suOf l).fits := by
  obtain ⟨a, b, c, d, e, f, g, i, j, k, m, n, o, p, q, r, s, rfl⟩ := list17 l h
  simp only [List.mem_cons, List.not_mem_nil, or_false, forall_eq_or_imp, forall_eq] at h2
  obtain ⟨u0, u1, u2, u3, u4, u5, u6, u7, u8, u9, u10, u11, u12, u13, u14, u15, u16⟩ := h2
  have H : ∀ n : Nat, n < 18446744073709551616 → In64 (sg n) := fun n hn => by
    rw [sg_eq n hn]
    unfold In64
    split <;> omega
  exact ⟨⟨H _ u0, H _ u1, H _ u2, H _ u3, H _ u4⟩, ⟨H _ u5, H _ u6, H _ u8, H _ u9⟩, ⟨u7, u10, u11, u12⟩, u13, u14, u15, u16⟩

/-- its bytes -/
def Su.bytes (s : Su) : List UInt8 := nb s.nums
theorem bytes_len (s : Su) : s.bytes.length = 136 := by rw [Su.bytes, nb_len, nums_len]
theorem tn_app (x : List UInt8) (r : List UInt8) (k : Nat) (hx : x.length = 8) : tn (x ++ r) (k + 1) = tn r k := by
  unfold tn
  rw [show 8 * (k + 1) = 8 + 8 * k by omega, ← List.drop_drop, ← hx, List.drop_left]
theorem tn_zero (n : Nat) (r : List UInt8) (hn : n < 18446744073709551616) : tn (le n 8 ++ r) 0 = n := by
  unfold tn
  rw [Nat.mul_zero, List.drop_zero, List.take_append_of_le_length (by rw [le_len]; omega), List.take_of_length_le (by rw [le_len]; omega)]
  exact leV_le 8 n (Nat.div_eq_of_lt (by simpa using hn))
theorem tn_nb : ∀ (l : List Nat) (k : Nat) (h : k < l.length), (∀ n ∈ l, n < 18446744073709551616) → tn (nb l) k = l[k]
  | n :: r, 0, _, hl => by simp only [nb, List.getElem_cons_zero]; exact tn_zero n _ (hl n (by simp))
  | n :: r, k + 1, h, hl => by
    simp only [nb, List.getElem_cons_succ]
    rw [tn_app _ _ _ (le_len 8 n)]
    exact tn_nb r k (by simpa using h) (fun m hm => hl m (by simp [hm]))
theorem takeU_nb (l : List Nat) (h : l.length = 17) (hl : ∀ n ∈ l, n < 18446744073709551616) : takeU (nb l) = l := by
  apply List.ext_getElem
  · rw [takeU_len, h]
  · intro k h1 h2
    simp only [takeU, List.getElem_map, List.getElem_range]
    exact tn_nb l k h2 hl
theorem nb_takeU (b : List UInt8) (h : b.length = 136) : nb (takeU b) = b := by
  have H : ∀ (m k : Nat), nb ((List.range' k m).map (tn b)) = (b.drop (8 * k)).take (8 * m) ∨ b.length < 8 * (k + m) := by
    intro m
    induction m with
    | zero => intro k; exact .inl (by simp [nb])
    | succ m ih =>
      intro k
      by_cases hl : b.length < 8 * (k + (m + 1))
      · exact .inr hl
      · refine .inl ?_
        rcases ih (k + 1) with h1 | h1
        · rw [List.range'_succ, List.map_cons, nb, h1]
          have e : le (tn b k) 8 = (b.drop (8 * k)).take 8 := by
            have := le_back ((b.drop (8 * k)).take 8)
            rw [show ((b.drop (8 * k)).take 8).length = 8 by simp; omega] at this
            exact this
          rw [e, show 8 * (m + 1) = 8 + 8 * m by omega, show 8 * (k + 1) = 8 * k + 8 by omega, ← List.drop_drop, List.take_add]
        · omega
  rcases H 17 0 with h1 | h1
  · have e : List.range 17 = List.range' 0 17 := by decide
    rw [takeU, e, h1, Nat.mul_zero, List.drop_zero, List.take_of_length_le (by omega)]
  · omega

/-- may it be? -/
def SR (s : Su) : Prop := (1 ≤ s.seq ∧ s.seq ≤ 72057594037927935) ∧ (s.count = 3 ∨ s.count = 5) ∧ (1 ≤ s.who ∧ s.who ≤ s.count) ∧ ((0 ≤ s.view ∧ s.view ≤ 72057594037927935) ∧ (0 ≤ s.cop ∧ s.cop ≤ 72057594037927935) ∧ 0 ≤ s.cview ∧ s.cview ≤ 72057594037927935) ∧
  (0 ≤ s.logV ∧ s.logV ≤ s.view) ∧ (0 ≤ s.area ∧ s.area ≤ 1) ∧ 0 ≤ s.size ∧ s.size ≤ 1920
instance (s : Su) : Decidable (SR s) := by unfold SR; infer_instance
theorem su0_not : ¬ SR su0 := by unfold SR su0; simp
/-- what Pack answers -/
def packU (s : Su) : List UInt8 × Int := if SR s then (s.bytes, 0) else ([], 4)
/-- what Unpack answers -/
def unpackU (b : List UInt8) : Su × Int := if b.length = 136 ∧ SR (suOf (takeU b)) then (suOf (takeU b), 0) else (su0, 4)
theorem unpack_pack (s : Su) (hf : s.fits) (h : SR s) : unpackU s.bytes = (s, 0) := by
  have e : suOf (takeU s.bytes) = s := by rw [Su.bytes, takeU_nb _ (nums_len s) (nums_lt s hf), nums_suOf s hf]
  unfold unpackU
  rw [e, if_pos ⟨bytes_len s, h⟩]
theorem bytes_of (b : List UInt8) (h : b.length = 136) : (suOf (takeU b)).bytes = b := by
  rw [Su.bytes, suOf_nums _ (takeU_len b) (takeU_lt b), nb_takeU b h]
theorem unpack_fits (b : List UInt8) : (unpackU b).1.fits := by
  unfold unpackU
  split
  · exact suOf_fits _ (takeU_len b) (takeU_lt b)
  · exact su0_fits
theorem unpack_sr (b : List UInt8) : (unpackU b).1 = su0 ∨ SR (unpackU b).1 := by
  unfold unpackU
  split
  · rename_i h
    exact .inr h.2
  · exact .inl rfl
theorem unpack_ok (b : List UInt8) : (unpackU b).2 = 0 ↔ SR (unpackU b).1 := by
  unfold unpackU
  split
  · rename_i h
    exact ⟨fun _ => h.2, fun _ => rfl⟩
  · exact ⟨fun h => (by cases h), fun h => absurd h su0_not⟩
/-- the one behind -/
def nextU (s : Su) : Su := if SR s ∧ s.seq ≠ 72057594037927935 then { s with seq := s.seq + 1, parent := (chainOf 0#64 s.bytes).toNat } else s
theorem nextU_fits (s : Su) (h : s.fits) : (nextU s).fits := by
  unfold nextU
  split
  · rename_i h1
    obtain ⟨⟨a0, a1, a2, a3, a4⟩, a5, a6, a7, a8, a9, -⟩ := h
    obtain ⟨⟨⟨b1, b2⟩, -⟩, -⟩ := h1
    exact ⟨⟨⟨by show -9223372036854775808 ≤ s.seq + 1; omega, by show s.seq + 1 ≤ 9223372036854775807; omega⟩, a1, a2, a3, a4⟩, a5, a6, a7, a8, a9, (chainOf 0#64 s.bytes).isLt⟩
  · exact h
/-- what a sector has; su0: nothing -/
def hasU (l : List UInt8) : Su := (unpackU (openS l).1).1
theorem hasU_fits (l : List UInt8) : (hasU l).fits := unpack_fits _
theorem hasU_sr (l : List UInt8) : hasU l = su0 ∨ SR (hasU l) := unpack_sr _
theorem hasU_lay (g : UInt8) (s : Su) (hf : s.fits) (h : SR s) : hasU (layS g s.bytes) = s := by
  unfold hasU
  rw [open_lay g s.bytes (by rw [bytes_len]; omega), unpack_pack s hf h]
theorem hasU_none (l : List UInt8) (h : openS l = ([], false)) : hasU l = su0 := by
  unfold hasU
  rw [h]
  rfl
end Go.Proofs.Ytogchfpecbmocaa
/-
  The walks of package super's within, Right, and of the document's fits, Right.
-/
namespace Go.Proofs.Ytogchfpecbmocaa
open Go.RowKit
set_option maxRecDepth 10000

/-- ints as values -/
def ivs (l : List Int) : List Value := l.map fun n => .int .i64 n
theorem ivs_len (l : List Int) : (ivs l).length = l.length := by simp [ivs]
/-- all within -/
def wi (lo hi : Int) (l : List Int) : Bool := l.all fun n => decide (lo ≤ n ∧ n ≤ hi)
theorem wi_snoc (lo hi : Int) (l : List Int) (k : Nat) (h : k < l.length) (ht : wi lo hi (l.take k) = true) (hk : lo ≤ l[k] ∧ l[k] ≤ hi) : wi lo hi (l.take (k + 1)) = true := by
  rw [List.take_succ_eq_append_getElem h]
  unfold wi at ht ⊢
  rw [List.all_append, ht]
  simp [hk]
theorem wi_not (lo hi : Int) (l : List Int) (k : Nat) (h : k < l.length) (hk : ¬ (lo ≤ l[k] ∧ l[k] ≤ hi)) : wi lo hi l = false := by
  rw [← Bool.not_eq_true]
  intro e
  have := List.all_eq_true.1 e l[k] (List.getElem_mem h)
  exact hk (by simpa using this)
set_option maxHeartbeats 1000000 in
theorem within_any (lo hi : Int) (A : Option Addr) (c B : Nat) (l : List Int) (w : World) (hr : Rd w B A (ivs l)) (hl : l.length ≤ 1000) (hpos : 0 < l.length) (hc : l.length ≤ c) :
    Calls Try.prog 39 #[.int .i64 lo, .int .i64 hi, .slice A l.length c] w fun e w' => e = .returned (.bool (wi lo hi l)) ∧ w = w' := by
  obtain ⟨g, o, rfl, -, hcell⟩ := hr (by intro e; have := ivs_len l; rw [e] at this; simp at this; omega)
  have HC : Hid (∀ k, (h : k < l.length) → w.cell? ⟨g, o + k, none⟩ = some (.int .i64 l[k])) := hid fun k h => hcell k _ (by simp [ivs, h])
  obtain ⟨n, hn⟩ : ∃ n, n = l.length := ⟨_, rfl⟩
  rw [← hn] at hl hpos hc ⊢
  have HN := hid hn
  clear hr hcell hn
  go_enter Try.func39, Try.ntmps39
  go_wp2_with fail
  go_loop [11] (fun i => ∃ k : Nat, k ≤ n ∧ i = .int .i64 k ∧ Hid (wi lo hi (l.take k) = true)) (fun i => n - (intOf i).toNat)
  case atStart => exact ⟨0, by omega, rfl, hid rfl⟩
  case round =>
    obtain ⟨k, hk, rfl, hpast⟩ := hrel
    by_cases hlt : k < n
    · have hkl : k < l.length := by rw [← HN.out]; exact hlt
      have hce := HC.out k hkl
      have HS := hid (wi_snoc lo hi l k hkl hpast.out)
      have HX := hid (wi_not lo hi l k hkl)
      generalize l[k] = x at hce HS HX
      by_cases h1 : x < lo
      · go_wp2_with fail
        go_ret
        rw [HX.out (by omega)]
        exact ⟨rfl, rfl⟩
      · by_cases h2 : hi < x
        · go_wp2_with fail
          go_ret
          rw [HX.out (by omega)]
          exact ⟨rfl, rfl⟩
        · go_wp2_with fail
          go_round
          case rel => exact ⟨k + 1, by omega, by go_num, hid (HS.out (by omega))⟩
          case measure => simp [intOf]; omega
    · obtain rfl : k = n := by omega
      go_wp2_with fail
      go_ret
      have hy := hpast.out
      rw [List.take_of_length_le (by rw [HN.out]; exact Nat.le_refl _)] at hy
      rw [hy]
      exact ⟨rfl, rfl⟩

/-- over a list that was just laid -/
theorem wiA (lo hi : Int) (l : List Int) (cs : Array Value) (n : Nat) (hl : l.length ≤ 1000) (hpos : 0 < l.length) (hcs : cs.toList = ivs l) (hn : l.length = n) (W : World) (g : Nat) (hg : g = W.heap.size) :
    Calls Try.prog 39 #[.int .i64 lo, .int .i64 hi, .slice (some ⟨g, 0, none⟩) n n] (W.alloc (.cells cs 3)) fun e w' => e = .returned (.bool (wi lo hi l)) ∧ (W.alloc (.cells cs 3)) = w' := by
  subst hg hn
  have := Row.new W 3 cs
  rw [hcs] at this
  exact within_any lo hi _ _ (W.heap.size + 1) l _ (this.rd (by omega)) hl hpos (Nat.le_refl _)

theorem sr_bool (s : Su) : decide (SR s) = (wi 1 72057594037927935 [s.seq] && (decide (s.count = 3) || decide (s.count = 5)) && wi 1 s.count [s.who] && wi 0 72057594037927935 [s.view, s.cop, s.cview] && wi 0 s.view [s.logV] && wi 0 1 [s.area] && wi 0 1920 [s.size]) := by
  rw [Bool.eq_iff_iff, decide_eq_true_iff]
  unfold SR wi
  simp only [List.all_cons, List.all_nil, Bool.and_true, Bool.and_eq_true, Bool.or_eq_true, decide_eq_true_eq]
  constructor
  · rintro ⟨h1, h2, h3, ⟨h4, h5, h6⟩, h7, h8, h9⟩
    exact ⟨⟨⟨⟨⟨⟨h1, h2⟩, h3⟩, h4, h5, h6⟩, h7⟩, h8⟩, h9⟩
  · rintro ⟨⟨⟨⟨⟨⟨h1, h2⟩, h3⟩, h4, h5, h6⟩, h7⟩, h8⟩, h9⟩
    exact ⟨h1, h2, h3, ⟨h4, h5, h6⟩, h7, h8, h9⟩

section
variable (seq who count view logV cop cview area size : Int) (csum s0 s1 s2 s3 s4 s5 parent : Nat) (w : World)
include seq who count view logV cop cview area size csum s0 s1 s2 s3 s4 s5 parent w in
set_option maxHeartbeats 2000000 in
theorem right_2_3 (k3 : (count == 3) = true) (HW1 : Hid (∀ (W : World) (g : Nat), g = W.heap.size → Calls Try.prog 39 #[.int .i64 1, .int .i64 72057594037927935, .slice (some ⟨g, 0, none⟩) 1 1] (W.alloc (.cells #[.int .i64 seq] 3)) fun e w' => e = .returned (.bool true) ∧ (W.alloc (.cells #[.int .i64 seq] 3)) = w')) (HW2 : Hid (∀ (W : World) (g : Nat), g = W.heap.size → Calls Try.prog 39 #[.int .i64 1, .int .i64 count, .slice (some ⟨g, 0, none⟩) 1 1] (W.alloc (.cells #[.int .i64 who] 3)) fun e w' => e = .returned (.bool false) ∧ (W.alloc (.cells #[.int .i64 who] 3)) = w')) :
    Calls Try.prog 11 #[.agg #[.int .i64 seq, .int .i64 who, .int .i64 count, .int .i64 view, .int .i64 logV, .int .i64 cop, .int .i64 cview, .int .u64 (csum : Int), .int .i64 area, .int .i64 size,
    .int .u64 (s0 : Int), .int .u64 (s1 : Int), .int .u64 (s2 : Int), .int .u64 (s3 : Int), .int .u64 (s4 : Int), .int .u64 (s5 : Int), .int .u64 (parent : Int)]] w (VE w (.bool false)) := by
  go_enter Try.func11, Try.ntmps11
  go_wp2_with (first
    | (go_at_call 39; refine (HW1.out _ _ (by simp)).mono ?_; rintro e w' ⟨rfl, rfl⟩; clear HW1)
    | (go_at_call 39; refine (HW2.out _ _ (by simp)).mono ?_; rintro e w' ⟨rfl, rfl⟩; clear HW2))
  go_ret
  refine ⟨rfl, ?_⟩
  repeat' first | exact Below.refl _ _ | refine Below.alloc ?_ (by simp <;> omega) _
include seq who count view logV cop cview area size csum s0 s1 s2 s3 s4 s5 parent w in
set_option maxHeartbeats 2000000 in
theorem right_3_3 (k3 : (count == 3) = true) (HW1 : Hid (∀ (W : World) (g : Nat), g = W.heap.size → Calls Try.prog 39 #[.int .i64 1, .int .i64 72057594037927935, .slice (some ⟨g, 0, none⟩) 1 1] (W.alloc (.cells #[.int .i64 seq] 3)) fun e w' => e = .returned (.bool true) ∧ (W.alloc (.cells #[.int .i64 seq] 3)) = w')) (HW2 : Hid (∀ (W : World) (g : Nat), g = W.heap.size → Calls Try.prog 39 #[.int .i64 1, .int .i64 count, .slice (some ⟨g, 0, none⟩) 1 1] (W.alloc (.cells #[.int .i64 who] 3)) fun e w' => e = .returned (.bool true) ∧ (W.alloc (.cells #[.int .i64 who] 3)) = w')) (HW3 : Hid (∀ (W : World) (g : Nat), g = W.heap.size → Calls Try.prog 39 #[.int .i64 0, .int .i64 72057594037927935, .slice (some ⟨g, 0, none⟩) 3 3] (W.alloc (.cells #[.int .i64 view, .int .i64 cop, .int .i64 cview] 3)) fun e w' => e = .returned (.bool false) ∧ (W.alloc (.cells #[.int .i64 view, .int .i64 cop, .int .i64 cview] 3)) = w')) :
    Calls Try.prog 11 #[.agg #[.int .i64 seq, .int .i64 who, .int .i64 count, .int .i64 view, .int .i64 logV, .int .i64 cop, .int .i64 cview, .int .u64 (csum : Int), .int .i64 area, .int .i64 size,
    .int .u64 (s0 : Int), .int .u64 (s1 : Int), .int .u64 (s2 : Int), .int .u64 (s3 : Int), .int .u64 (s4 : Int), .int .u64 (s5 : Int), .int .u64 (parent : Int)]] w (VE w (.bool false)) := by
  go_enter Try.func11, Try.ntmps11
  go_wp2_with (first
    | (go_at_call 39; refine (HW1.out _ _ (by simp)).mono ?_; rintro e w' ⟨rfl, rfl⟩; clear HW1)
    | (go_at_call 39; refine (HW2.out _ _ (by simp)).mono ?_; rintro e w' ⟨rfl, rfl⟩; clear HW2)
    | (go_at_call 39; refine (HW3.out _ _ (by simp)).mono ?_; rintro e w' ⟨rfl, rfl⟩; clear HW3))
  go_ret
  refine ⟨rfl, ?_⟩
  repeat' first | exact Below.refl _ _ | refine Below.alloc ?_ (by simp <;> omega) _
include seq who count view logV cop cview area size csum s0 s1 s2 s3 s4 s5 parent w in
set_option maxHeartbeats 2000000 in
theorem right_4_3 (k3 : (count == 3) = true) (HW1 : Hid (∀ (W : World) (g : Nat), g = W.heap.size → Calls Try.prog 39 #[.int .i64 1, .int .i64 72057594037927935, .slice (some ⟨g, 0, none⟩) 1 1] (W.alloc (.cells #[.int .i64 seq] 3)) fun e w' => e = .returned (.bool true) ∧ (W.alloc (.cells #[.int .i64 seq] 3)) = w')) (HW2 : Hid (∀ (W : World) (g : Nat), g = W.heap.size → Calls Try.prog 39 #[.int .i64 1, .int .i64 count, .slice (some ⟨g, 0, none⟩) 1 1] (W.alloc (.cells #[.int .i64 who] 3)) fun e w' => e = .returned (.bool true) ∧ (W.alloc (.cells #[.int .i64 who] 3)) = w')) (HW3 : Hid (∀ (W : World) (g : Nat), g = W.heap.size → Calls Try.prog 39 #[.int .i64 0, .int .i64 72057594037927935, .slice (some ⟨g, 0, none⟩) 3 3] (W.alloc (.cells #[.int .i64 view, .int .i64 cop, .int .i64 cview] 3)) fun e w' => e = .returned (.bool true) ∧ (W.alloc (.cells #[.int .i64 view, .int .i64 cop, .int .i64 cview] 3)) = w')) (HW4 : Hid (∀ (W : World) (g : Nat), g = W.heap.size → Calls Try.prog 39 #[.int .i64 0, .int .i64 view, .slice (some ⟨g, 0, none⟩) 1 1] (W.alloc (.cells #[.int .i64 logV] 3)) fun e w' => e = .returned (.bool false) ∧ (W.alloc (.cells #[.int .i64 logV] 3)) = w')) :
    Calls Try.prog 11 #[.agg #[.int .i64 seq, .int .i64 who, .int .i64 count, .int .i64 view, .int .i64 logV, .int .i64 cop, .int .i64 cview, .int .u64 (csum : Int), .int .i64 area, .int .i64 size,
    .int .u64 (s0 : Int), .int .u64 (s1 : Int), .int .u64 (s2 : Int), .int .u64 (s3 : Int), .int .u64 (s4 : Int), .int .u64 (s5 : Int), .int .u64 (parent : Int)]] w (VE w (.bool false)) := by
  go_enter Try.func11, Try.ntmps11
  go_wp2_with (first
    | (go_at_call 39; refine (HW1.out _ _ (by simp)).mono ?_; rintro e w' ⟨rfl, rfl⟩; clear HW1)
    | (go_at_call 39; refine (HW2.out _ _ (by simp)).mono ?_; rintro e w' ⟨rfl, rfl⟩; clear HW2)
    | (go_at_call 39; refine (HW3.out _ _ (by simp)).mono ?_; rintro e w' ⟨rfl, rfl⟩; clear HW3)
    | (go_at_call 39; refine (HW4.out _ _ (by simp)).mono ?_; rintro e w' ⟨rfl, rfl⟩; clear HW4))
  go_ret
  refine ⟨rfl, ?_⟩
  repeat' first | exact Below.refl _ _ | refine Below.alloc ?_ (by simp <;> omega) _
include seq who count view logV cop cview area size csum s0 s1 s2 s3 s4 s5 parent w in
set_option maxHeartbeats 2000000 in
theorem right_5_3 (k3 : (count == 3) = true) (HW1 : Hid (∀ (W : World) (g : Nat), g = W.heap.size → Calls Try.prog 39 #[.int .i64 1, .int .i64 72057594037927935, .slice (some ⟨g, 0, none⟩) 1 1] (W.alloc (.cells #[.int .i64 seq] 3)) fun e w' => e = .returned (.bool true) ∧ (W.alloc (.cells #[.int .i64 seq] 3)) = w')) (HW2 : Hid (∀ (W : World) (g : Nat), g = W.heap.size → Calls Try.prog 39 #[.int .i64 1, .int .i64 count, .slice (some ⟨g, 0, none⟩) 1 1] (W.alloc (.cells #[.int .i64 who] 3)) fun e w' => e = .returned (.bool true) ∧ (W.alloc (.cells #[.int .i64 who] 3)) = w')) (HW3 : Hid (∀ (W : World) (g : Nat), g = W.heap.size → Calls Try.prog 39 #[.int .i64 0, .int .i64 72057594037927935, .slice (some ⟨g, 0, none⟩) 3 3] (W.alloc (.cells #[.int .i64 view, .int .i64 cop, .int .i64 cview] 3)) fun e w' => e = .returned (.bool true) ∧ (W.alloc (.cells #[.int .i64 view, .int .i64 cop, .int .i64 cview] 3)) = w')) (HW4 : Hid (∀ (W : World) (g : Nat), g = W.heap.size → Calls Try.prog 39 #[.int .i64 0, .int .i64 view, .slice (some ⟨g, 0, none⟩) 1 1] (W.alloc (.cells #[.int .i64 logV] 3)) fun e w' => e = .returned (.bool true) ∧ (W.alloc (.cells #[.int .i64 logV] 3)) = w')) (HW5 : Hid (∀ (W : World) (g : Nat), g = W.heap.size → Calls Try.prog 39 #[.int .i64 0, .int .i64 1, .slice (some ⟨g, 0, none⟩) 1 1] (W.alloc (.cells #[.int .i64 area] 3)) fun e w' => e = .returned (.bool false) ∧ (W.alloc (.cells #[.int .i64 area] 3)) = w')) :
    Calls Try.prog 11 #[.agg #[.int .i64 seq, .int .i64 who, .int .i64 count, .int .i64 view, .int .i64 logV, .int .i64 cop, .int .i64 cview, .int .u64 (csum : Int), .int .i64 area, .int .i64 size,
    .int .u64 (s0 : Int), .int .u64 (s1 : Int), .int .u64 (s2 : Int), .int .u64 (s3 : Int), .int .u64 (s4 : Int), .int .u64 (s5 : Int), .int .u64 (parent : Int)]] w (VE w (.bool false)) := by
  go_enter Try.func11, Try.ntmps11
  go_wp2_with (first
    | (go_at_call 39; refine (HW1.out _ _ (by simp)).mono ?_; rintro e w' ⟨rfl, rfl⟩; clear HW1)
    | (go_at_call 39; refine (HW2.out _ _ (by simp)).mono ?_; rintro e w' ⟨rfl, rfl⟩; clear HW2)
    | (go_at_call 39; refine (HW3.out _ _ (by simp)).mono ?_; rintro e w' ⟨rfl, rfl⟩; clear HW3)
    | (go_at_call 39; refine (HW4.out _ _ (by simp)).mono ?_; rintro e w' ⟨rfl, rfl⟩; clear HW4)
    | (go_at_call 39; refine (HW5.out _ _ (by simp)).mono ?_; rintro e w' ⟨rfl, rfl⟩; clear HW5))
  go_ret
  refine ⟨rfl, ?_⟩
  repeat' first | exact Below.refl _ _ | refine Below.alloc ?_ (by simp <;> omega) _
include seq who count view logV cop cview area size csum s0 s1 s2 s3 s4 s5 parent w in
set_option maxHeartbeats 2000000 in
theorem right_6_3 (k3 : (count == 3) = true) (HW1 : Hid (∀ (W : World) (g : Nat), g = W.heap.size → Calls Try.prog 39 #[.int .i64 1, .int .i64 72057594037927935, .slice (some ⟨g, 0, none⟩) 1 1] (W.alloc (.cells #[.int .i64 seq] 3)) fun e w' => e = .returned (.bool true) ∧ (W.alloc (.cells #[.int .i64 seq] 3)) = w')) (HW2 : Hid (∀ (W : World) (g : Nat), g = W.heap.size → Calls Try.prog 39 #[.int .i64 1, .int .i64 count, .slice (some ⟨g, 0, none⟩) 1 1] (W.alloc (.cells #[.int .i64 who] 3)) fun e w' => e = .returned (.bool true) ∧ (W.alloc (.cells #[.int .i64 who] 3)) = w')) (HW3 : Hid (∀ (W : World) (g : Nat), g = W.heap.size → Calls Try.prog 39 #[.int .i64 0, .int .i64 72057594037927935, .slice (some ⟨g, 0, none⟩) 3 3] (W.alloc (.cells #[.int .i64 view, .int .i64 cop, .int .i64 cview] 3)) fun e w' => e = .returned (.bool true) ∧ (W.alloc (.cells #[.int .i64 view, .int .i64 cop, .int .i64 cview] 3)) = w')) (HW4 : Hid (∀ (W : World) (g : Nat), g = W.heap.size → Calls Try.prog 39 #[.int .i64 0, .int .i64 view, .slice (some ⟨g, 0, none⟩) 1 1] (W.alloc (.cells #[.int .i64 logV] 3)) fun e w' => e = .returned (.bool true) ∧ (W.alloc (.cells #[.int .i64 logV] 3)) = w')) (HW5 : Hid (∀ (W : World) (g : Nat), g = W.heap.size → Calls Try.prog 39 #[.int .i64 0, .int .i64 1, .slice (some ⟨g, 0, none⟩) 1 1] (W.alloc (.cells #[.int .i64 area] 3)) fun e w' => e = .returned (.bool true) ∧ (W.alloc (.cells #[.int .i64 area] 3)) = w')) (HW6 : Hid (∀ (W : World) (g : Nat), g = W.heap.size → Calls Try.prog 39 #[.int .i64 0, .int .i64 1920, .slice (some ⟨g, 0, none⟩) 1 1] (W.alloc (.cells #[.int .i64 size] 3)) fun e w' => e = .returned (.bool false) ∧ (W.alloc (.cells #[.int .i64 size] 3)) = w')) :
    Calls Try.prog 11 #[.agg #[.int .i64 seq, .int .i64 who, .int .i64 count, .int .i64 view, .int .i64 logV, .int .i64 cop, .int .i64 cview, .int .u64 (csum : Int), .int .i64 area, .int .i64 size,
    .int .u64 (s0 : Int), .int .u64 (s1 : Int), .int .u64 (s2 : Int), .int .u64 (s3 : Int), .int .u64 (s4 : Int), .int .u64 (s5 : Int), .int .u64 (parent : Int)]] w (VE w (.bool false)) := by
  go_enter Try.func11, Try.ntmps11
  go_wp2_with (first
    | (go_at_call 39; refine (HW1.out _ _ (by simp)).mono ?_; rintro e w' ⟨rfl, rfl⟩; clear HW1)
    | (go_at_call 39; refine (HW2.out _ _ (by simp)).mono ?_; rintro e w' ⟨rfl, rfl⟩; clear HW2)
    | (go_at_call 39; refine (HW3.out _ _ (by simp)).mono ?_; rintro e w' ⟨rfl, rfl⟩; clear HW3)
    | (go_at_call 39; refine (HW4.out _ _ (by simp)).mono ?_; rintro e w' ⟨rfl, rfl⟩; clear HW4)
    | (go_at_call 39; refine (HW5.out _ _ (by simp)).mono ?_; rintro e w' ⟨rfl, rfl⟩; clear HW5)
    | (go_at_call 39; refine (HW6.out _ _ (by simp)).mono ?_; rintro e w' ⟨rfl, rfl⟩; clear HW6))
  go_ret
  refine ⟨rfl, ?_⟩
  repeat' first | exact Below.refl _ _ | refine Below.alloc ?_ (by simp <;> omega) _
include seq who count view logV cop cview area size csum s0 s1 s2 s3 s4 s5 parent w in
set_option maxHeartbeats 2000000 in
theorem right_7_3 (k3 : (count == 3) = true) (HW1 : Hid (∀ (W : World) (g : Nat), g = W.heap.size → Calls Try.prog 39 #[.int .i64 1, .int .i64 72057594037927935, .slice (some ⟨g, 0, none⟩) 1 1] (W.alloc (.cells #[.int .i64 seq] 3)) fun e w' => e = .returned (.bool true) ∧ (W.alloc (.cells #[.int .i64 seq] 3)) = w')) (HW2 : Hid (∀ (W : World) (g : Nat), g = W.heap.size → Calls Try.prog 39 #[.int .i64 1, .int .i64 count, .slice (some ⟨g, 0, none⟩) 1 1] (W.alloc (.cells #[.int .i64 who] 3)) fun e w' => e = .returned (.bool true) ∧ (W.alloc (.cells #[.int .i64 who] 3)) = w')) (HW3 : Hid (∀ (W : World) (g : Nat), g = W.heap.size → Calls Try.prog 39 #[.int .i64 0, .int .i64 72057594037927935, .slice (some ⟨g, 0, none⟩) 3 3] (W.alloc (.cells #[.int .i64 view, .int .i64 cop, .int .i64 cview] 3)) fun e w' => e = .returned (.bool true) ∧ (W.alloc (.cells #[.int .i64 view, .int .i64 cop, .int .i64 cview] 3)) = w')) (HW4 : Hid (∀ (W : World) (g : Nat), g = W.heap.size → Calls Try.prog 39 #[.int .i64 0, .int .i64 view, .slice (some ⟨g, 0, none⟩) 1 1] (W.alloc (.cells #[.int .i64 logV] 3)) fun e w' => e = .returned (.bool true) ∧ (W.alloc (.cells #[.int .i64 logV] 3)) = w')) (HW5 : Hid (∀ (W : World) (g : Nat), g = W.heap.size → Calls Try.prog 39 #[.int .i64 0, .int .i64 1, .slice (some ⟨g, 0, none⟩) 1 1] (W.alloc (.cells #[.int .i64 area] 3)) fun e w' => e = .returned (.bool true) ∧ (W.alloc (.cells #[.int .i64 area] 3)) = w')) (HW6 : Hid (∀ (W : World) (g : Nat), g = W.heap.size → Calls Try.prog 39 #[.int .i64 0, .int .i64 1920, .slice (some ⟨g, 0, none⟩) 1 1] (W.alloc (.cells #[.int .i64 size] 3)) fun e w' => e = .returned (.bool true) ∧ (W.alloc (.cells #[.int .i64 size] 3)) = w')) :
    Calls Try.prog 11 #[.agg #[.int .i64 seq, .int .i64 who, .int .i64 count, .int .i64 view, .int .i64 logV, .int .i64 cop, .int .i64 cview, .int .u64 (csum : Int), .int .i64 area, .int .i64 size,
    .int .u64 (s0 : Int), .int .u64 (s1 : Int), .int .u64 (s2 : Int), .int .u64 (s3 : Int), .int .u64 (s4 : Int), .int .u64 (s5 : Int), .int .u64 (parent : Int)]] w (VE w (.bool true)) := by
  go_enter Try.func11, Try.ntmps11
  go_wp2_with (first
    | (go_at_call 39; refine (HW1.out _ _ (by simp)).mono ?_; rintro e w' ⟨rfl, rfl⟩; clear HW1)
    | (go_at_call 39; refine (HW2.out _ _ (by simp)).mono ?_; rintro e w' ⟨rfl, rfl⟩; clear HW2)
    | (go_at_call 39; refine (HW3.out _ _ (by simp)).mono ?_; rintro e w' ⟨rfl, rfl⟩; clear HW3)
    | (go_at_call 39; refine (HW4.out _ _ (by simp)).mono ?_; rintro e w' ⟨rfl, rfl⟩; clear HW4)
    | (go_at_call 39; refine (HW5.out _ _ (by simp)).mono ?_; rintro e w' ⟨rfl, rfl⟩; clear HW5)
    | (go_at_call 39; refine (HW6.out _ _ (by simp)).mono ?_; rintro e w' ⟨rfl, rfl⟩; clear HW6))
  go_ret
  refine ⟨rfl, ?_⟩
  repeat' first | exact Below.refl _ _ | refine Below.alloc ?_ (by simp <;> omega) _
include seq who count view logV cop cview area size csum s0 s1 s2 s3 s4 s5 parent w in
set_option maxHeartbeats 2000000 in
theorem right_2_5 (k3 : (count == 3) = false) (k5 : (count == 5) = true) (HW1 : Hid (∀ (W : World) (g : Nat), g = W.heap.size → Calls Try.prog 39 #[.int .i64 1, .int .i64 72057594037927935, .slice (some ⟨g, 0, none⟩) 1 1] (W.alloc (.cells #[.int .i64 seq] 3)) fun e w' => e = .returned (.bool true) ∧ (W.alloc (.cells #[.int .i64 seq] 3)) = w')) (HW2 : Hid (∀ (W : World) (g : Nat), g = W.heap.size → Calls Try.prog 39 #[.int .i64 1, .int .i64 count, .slice (some ⟨g, 0, none⟩) 1 1] (W.alloc (.cells #[.int .i64 who] 3)) fun e w' => e = .returned (.bool false) ∧ (W.alloc (.cells #[.int .i64 who] 3)) = w')) :
    Calls Try.prog 11 #[.agg #[.int .i64 seq, .int .i64 who, .int .i64 count, .int .i64 view, .int .i64 logV, .int .i64 cop, .int .i64 cview, .int .u64 (csum : Int), .int .i64 area, .int .i64 size,
    .int .u64 (s0 : Int), .int .u64 (s1 : Int), .int .u64 (s2 : Int), .int .u64 (s3 : Int), .int .u64 (s4 : Int), .int .u64 (s5 : Int), .int .u64 (parent : Int)]] w (VE w (.bool false)) := by
  go_enter Try.func11, Try.ntmps11
  go_wp2_with (first
    | (go_at_call 39; refine (HW1.out _ _ (by simp)).mono ?_; rintro e w' ⟨rfl, rfl⟩; clear HW1)
    | (go_at_call 39; refine (HW2.out _ _ (by simp)).mono ?_; rintro e w' ⟨rfl, rfl⟩; clear HW2))
  go_ret
  refine ⟨rfl, ?_⟩
  repeat' first | exact Below.refl _ _ | refine Below.alloc ?_ (by simp <;> omega) _
include seq who count view logV cop cview area size csum s0 s1 s2 s3 s4 s5 parent w in
set_option maxHeartbeats 2000000 in
theorem right_3_5 (k3 : (count == 3) = false) (k5 : (count == 5) = true) (HW1 : Hid (∀ (W : World) (g : Nat), g = W.heap.size → Calls Try.prog 39 #[.int .i64 1, .int .i64 72057594037927935, .slice (some ⟨g, 0, none⟩) 1 1] (W.alloc (.cells #[.int .i64 seq] 3)) fun e w' => e = .returned (.bool true) ∧ (W.alloc (.cells #[.int .i64 seq] 3)) = w')) (HW2 : Hid (∀ (W : World) (g : Nat), g = W.heap.size → Calls Try.prog 39 #[.int .i64 1, .int .i64 count, .slice (some ⟨g, 0, none⟩) 1 1] (W.alloc (.cells #[.int .i64 who] 3)) fun e w' => e = .returned (.bool true) ∧ (W.alloc (.cells #[.int .i64 who] 3)) = w')) (HW3 : Hid (∀ (W : World) (g : Nat), g = W.heap.size → Calls Try.prog 39 #[.int .i64 0, .int .i64 72057594037927935, .slice (some ⟨g, 0, none⟩) 3 3] (W.alloc (.cells #[.int .i64 view, .int .i64 cop, .int .i64 cview] 3)) fun e w' => e = .returned (.bool false) ∧ (W.alloc (.cells #[.int .i64 view, .int .i64 cop, .int .i64 cview] 3)) = w')) :
    Calls Try.prog 11 #[.agg #[.int .i64 seq, .int .i64 who, .int .i64 count, .int .i64 view, .int .i64 logV, .int .i64 cop, .int .i64 cview, .int .u64 (csum : Int), .int .i64 area, .int .i64 size,
    .int .u64 (s0 : Int), .int .u64 (s1 : Int), .int .u64 (s2 : Int), .int .u64 (s3 : Int), .int .u64 (s4 : Int), .int .u64 (s5 : Int), .int .u64 (parent : Int)]] w (VE w (.bool false)) := by
  go_enter Try.func11, Try.ntmps11
  go_wp2_with (first
    | (go_at_call 39; refine (HW1.out _ _ (by simp)).mono ?_; rintro e w' ⟨rfl, rfl⟩; clear HW1)
    | (go_at_call 39; refine (HW2.out _ _ (by simp)).mono ?_; rintro e w' ⟨rfl, rfl⟩; clear HW2)
    | (go_at_call 39; refine (HW3.out _ _ (by simp)).mono ?_; rintro e w' ⟨rfl, rfl⟩; clear HW3))
  go_ret
  refine ⟨rfl, ?_⟩
  repeat' first | exact Below.refl _ _ | refine Below.alloc ?_ (by simp <;> omega) _
include seq who count view logV cop cview area size csum s0 s1 s2 s3 s4 s5 parent w in
set_option maxHeartbeats 2000000 in
theorem right_4_5 (k3 : (count == 3) = false) (k5 : (count == 5) = true) (HW1 : Hid (∀ (W : World) (g : Nat), g = W.heap.size → Calls Try.prog 39 #[.int .i64 1, .int .i64 72057594037927935, .slice (some ⟨g, 0, none⟩) 1 1] (W.alloc (.cells #[.int .i64 seq] 3)) fun e w' => e = .returned (.bool true) ∧ (W.alloc (.cells #[.int .i64 seq] 3)) = w')) (HW2 : Hid (∀ (W : World) (g : Nat), g = W.heap.size → Calls Try.prog 39 #[.int .i64 1, .int .i64 count, .slice (some ⟨g, 0, none⟩) 1 1] (W.alloc (.cells #[.int .i64 who] 3)) fun e w' => e = .returned (.bool true) ∧ (W.alloc (.cells #[.int .i64 who] 3)) = w')) (HW3 : Hid (∀ (W : World) (g : Nat), g = W.heap.size → Calls Try.prog 39 #[.int .i64 0, .int .i64 72057594037927935, .slice (some ⟨g, 0, none⟩) 3 3] (W.alloc (.cells #[.int .i64 view, .int .i64 cop, .int .i64 cview] 3)) fun e w' => e = .returned (.bool true) ∧ (W.alloc (.cells #[.int .i64 view, .int .i64 cop, .int .i64 cview] 3)) = w')) (HW4 : Hid (∀ (W : World) (g : Nat), g = W.heap.size → Calls Try.prog 39 #[.int .i64 0, .int .i64 view, .slice (some ⟨g, 0, none⟩) 1 1] (W.alloc (.cells #[.int .i64 logV] 3)) fun e w' => e = .returned (.bool false) ∧ (W.alloc (.cells #[.int .i64 logV] 3)) = w')) :
    Calls Try.prog 11 #[.agg #[.int .i64 seq, .int .i64 who, .int .i64 count, .int .i64 view, .int .i64 logV, .int .i64 cop, .int .i64 cview, .int .u64 (csum : Int), .int .i64 area, .int .i64 size,
    .int .u64 (s0 : Int), .int .u64 (s1 : Int), .int .u64 (s2 : Int), .int .u64 (s3 : Int), .int .u64 (s4 : Int), .int .u64 (s5 : Int), .int .u64 (parent : Int)]] w (VE w (.bool false)) := by
  go_enter Try.func11, Try.ntmps11
  go_wp2_with (first
    | (go_at_call 39; refine (HW1.out _ _ (by simp)).mono ?_; rintro e w' ⟨rfl, rfl⟩; clear HW1)
    | (go_at_call 39; refine (HW2.out _ _ (by simp)).mono ?_; rintro e w' ⟨rfl, rfl⟩; clear HW2)
    | (go_at_call 39; refine (HW3.out _ _ (by simp)).mono ?_; rintro e w' ⟨rfl, rfl⟩; clear HW3)
    | (go_at_call 39; refine (HW4.out _ _ (by simp)).mono ?_; rintro e w' ⟨rfl, rfl⟩; clear HW4))
  go_ret
  refine ⟨rfl, ?_⟩
  repeat' first | exact Below.refl _ _ | refine Below.alloc ?_ (by simp <;> omega) _
include seq who count view logV cop cview area size csum s0 s1 s2 s3 s4 s5 parent w in
set_option maxHeartbeats 2000000 in
theorem right_5_5 (k3 : (count == 3) = false) (k5 : (count == 5) = true) (HW1 : Hid (∀ (W : World) (g : Nat), g = W.heap.size → Calls Try.prog 39 #[.int .i64 1, .int .i64 72057594037927935, .slice (some ⟨g, 0, none⟩) 1 1] (W.alloc (.cells #[.int .i64 seq] 3)) fun e w' => e = .returned (.bool true) ∧ (W.alloc (.cells #[.int .i64 seq] 3)) = w')) (HW2 : Hid (∀ (W : World) (g : Nat), g = W.heap.size → Calls Try.prog 39 #[.int .i64 1, .int .i64 count, .slice (some ⟨g, 0, none⟩) 1 1] (W.alloc (.cells #[.int .i64 who] 3)) fun e w' => e = .returned (.bool true) ∧ (W.alloc (.cells #[.int .i64 who] 3)) = w')) (HW3 : Hid (∀ (W : World) (g : Nat), g = W.heap.size → Calls Try.prog 39 #[.int .i64 0, .int .i64 72057594037927935, .slice (some ⟨g, 0, none⟩) 3 3] (W.alloc (.cells #[.int .i64 view, .int .i64 cop, .int .i64 cview] 3)) fun e w' => e = .returned (.bool true) ∧ (W.alloc (.cells #[.int .i64 view, .int .i64 cop, .int .i64 cview] 3)) = w')) (HW4 : Hid (∀ (W : World) (g : Nat), g = W.heap.size → Calls Try.prog 39 #[.int .i64 0, .int .i64 view, .slice (some ⟨g, 0, none⟩) 1 1] (W.alloc (.cells #[.int .i64 logV] 3)) fun e w' => e = .returned (.bool true) ∧ (W.alloc (.cells #[.int .i64 logV] 3)) = w')) (HW5 : Hid (∀ (W : World) (g : Nat), g = W.heap.size → Calls Try.prog 39 #[.int .i64 0, .int .i64 1, .slice (some ⟨g, 0, none⟩) 1 1] (W.alloc (.cells #[.int .i64 area] 3)) fun e w' => e = .returned (.bool false) ∧ (W.alloc (.cells #[.int .i64 area] 3)) = w')) :
    Calls Try.prog 11 #[.agg #[.int .i64 seq, .int .i64 who, .int .i64 count, .int .i64 view, .int .i64 logV, .int .i64 cop, .int .i64 cview, .int .u64 (csum : Int), .int .i64 area, .int .i64 size,
    .int .u64 (s0 : Int), .int .u64 (s1 : Int), .int .u64 (s2 : Int), .int .u64 (s3 : Int), .int .u64 (s4 : Int), .int .u64 (s5 : Int), .int .u64 (parent : Int)]] w (VE w (.bool false)) := by
  go_enter Try.func11, Try.ntmps11
  go_wp2_with (first
    | (go_at_call 39; refine (HW1.out _ _ (by simp)).mono ?_; rintro e w' ⟨rfl, rfl⟩; clear HW1)
    | (go_at_call 39; refine (HW2.out _ _ (by simp)).mono ?_; rintro e w' ⟨rfl, rfl⟩; clear HW2)
    | (go_at_call 39; refine (HW3.out _ _ (by simp)).mono ?_; rintro e w' ⟨rfl, rfl⟩; clear HW3)
    | (go_at_call 39; refine (HW4.out _ _ (by simp)).mono ?_; rintro e w' ⟨rfl, rfl⟩; clear HW4)
    | (go_at_call 39; refine (HW5.out _ _ (by simp)).mono ?_; rintro e w' ⟨rfl, rfl⟩; clear HW5))
  go_ret
  refine ⟨rfl, ?_⟩
  repeat' first | exact Below.refl _ _ | refine Below.alloc ?_ (by simp <;> omega) _
include seq who count view logV cop cview area size csum s0 s1 s2 s3 s4 s5 parent w in
set_option maxHeartbeats 2000000 in
theorem right_6_5 (k3 : (count == 3) = false) (k5 : (count == 5) = true) (HW1 : Hid (∀ (W : World) (g : Nat), g = W.heap.size → Calls Try.prog 39 #[.int .i64 1, .int .i64 72057594037927935, .slice (some ⟨g, 0, none⟩) 1 1] (W.alloc (.cells #[.int .i64 seq] 3)) fun e w' => e = .returned (.bool true) ∧ (W.alloc (.cells #[.int .i64 seq] 3)) = w')) (HW2 : Hid (∀ (W : World) (g : Nat), g = W.heap.size → Calls Try.prog 39 #[.int .i64 1, .int .i64 count, .slice (some ⟨g, 0, none⟩) 1 1] (W.alloc (.cells #[.int .i64 who] 3)) fun e w' => e = .returned (.bool true) ∧ (W.alloc (.cells #[.int .i64 who] 3)) = w')) (HW3 : Hid (∀ (W : World) (g : Nat), g = W.heap.size → Calls Try.prog 39 #[.int .i64 0, .int .i64 72057594037927935, .slice (some ⟨g, 0, none⟩) 3 3] (W.alloc (.cells #[.int .i64 view, .int .i64 cop, .int .i64 cview] 3)) fun e w' => e = .returned (.bool true) ∧ (W.alloc (.cells #[.int .i64 view, .int .i64 cop, .int .i64 cview] 3)) = w')) (HW4 : Hid (∀ (W : World) (g : Nat), g = W.heap.size → Calls Try.prog 39 #[.int .i64 0, .int .i64 view, .slice (some ⟨g, 0, none⟩) 1 1] (W.alloc (.cells #[.int .i64 logV] 3)) fun e w' => e = .returned (.bool true) ∧ (W.alloc (.cells #[.int .i64 logV] 3)) = w')) (HW5 : Hid (∀ (W : World) (g : Nat), g = W.heap.size → Calls Try.prog 39 #[.int .i64 0, .int .i64 1, .slice (some ⟨g, 0, none⟩) 1 1] (W.alloc (.cells #[.int .i64 area] 3)) fun e w' => e = .returned (.bool true) ∧ (W.alloc (.cells #[.int .i64 area] 3)) = w')) (HW6 : Hid (∀ (W : World) (g : Nat), g = W.heap.size → Calls Try.prog 39 #[.int .i64 0, .int .i64 1920, .slice (some ⟨g, 0, none⟩) 1 1] (W.alloc (.cells #[.int .i64 size] 3)) fun e w' => e = .returned (.bool false) ∧ (W.alloc (.cells #[.int .i64 size] 3)) = w')) :
    Calls Try.prog 11 #[.agg #[.int .i64 seq, .int .i64 who, .int .i64 count, .int .i64 view, .int .i64 logV, .int .i64 cop, .int .i64 cview, .int .u64 (csum : Int), .int .i64 area, .int .i64 size,
    .int .u64 (s0 : Int), .int .u64 (s1 : Int), .int .u64 (s2 : Int), .int .u64 (s3 : Int), .int .u64 (s4 : Int), .int .u64 (s5 : Int), .int .u64 (parent : Int)]] w (VE w (.bool false)) := by
  go_enter Try.func11, Try.ntmps11
  go_wp2_with (first
    | (go_at_call 39; refine (HW1.out _ _ (by simp)).mono ?_; rintro e w' ⟨rfl, rfl⟩; clear HW1)
    | (go_at_call 39; refine (HW2.out _ _ (by simp)).mono ?_; rintro e w' ⟨rfl, rfl⟩; clear HW2)
    | (go_at_call 39; refine (HW3.out _ _ (by simp)).mono ?_; rintro e w' ⟨rfl, rfl⟩; clear HW3)
    | (go_at_call 39; refine (HW4.out _ _ (by simp)).mono ?_; rintro e w' ⟨rfl, rfl⟩; clear HW4)
    | (go_at_call 39; refine (HW5.out _ _ (by simp)).mono ?_; rintro e w' ⟨rfl, rfl⟩; clear HW5)
    | (go_at_call 39; refine (HW6.out _ _ (by simp)).mono ?_; rintro e w' ⟨rfl, rfl⟩; clear HW6))
  go_ret
  refine ⟨rfl, ?_⟩
  repeat' first | exact Below.refl _ _ | refine Below.alloc ?_ (by simp <;> omega) _
include seq who count view logV cop cview area size csum s0 s1 s2 s3 s4 s5 parent w in
set_option maxHeartbeats 2000000 in
theorem right_7_5 (k3 : (count == 3) = false) (k5 : (count == 5) = true) (HW1 : Hid (∀ (W : World) (g : Nat), g = W.heap.size → Calls Try.prog 39 #[.int .i64 1, .int .i64 72057594037927935, .slice (some ⟨g, 0, none⟩) 1 1] (W.alloc (.cells #[.int .i64 seq] 3)) fun e w' => e = .returned (.bool true) ∧ (W.alloc (.cells #[.int .i64 seq] 3)) = w')) (HW2 : Hid (∀ (W : World) (g : Nat), g = W.heap.size → Calls Try.prog 39 #[.int .i64 1, .int .i64 count, .slice (some ⟨g, 0, none⟩) 1 1] (W.alloc (.cells #[.int .i64 who] 3)) fun e w' => e = .returned (.bool true) ∧ (W.alloc (.cells #[.int .i64 who] 3)) = w')) (HW3 : Hid (∀ (W : World) (g : Nat), g = W.heap.size → Calls Try.prog 39 #[.int .i64 0, .int .i64 72057594037927935, .slice (some ⟨g, 0, none⟩) 3 3] (W.alloc (.cells #[.int .i64 view, .int .i64 cop, .int .i64 cview] 3)) fun e w' => e = .returned (.bool true) ∧ (W.alloc (.cells #[.int .i64 view, .int .i64 cop, .int .i64 cview] 3)) = w')) (HW4 : Hid (∀ (W : World) (g : Nat), g = W.heap.size → Calls Try.prog 39 #[.int .i64 0, .int .i64 view, .slice (some ⟨g, 0, none⟩) 1 1] (W.alloc (.cells #[.int .i64 logV] 3)) fun e w' => e = .returned (.bool true) ∧ (W.alloc (.cells #[.int .i64 logV] 3)) = w')) (HW5 : Hid (∀ (W : World) (g : Nat), g = W.heap.size → Calls Try.prog 39 #[.int .i64 0, .int .i64 1, .slice (some ⟨g, 0, none⟩) 1 1] (W.alloc (.cells #[.int .i64 area] 3)) fun e w' => e = .returned (.bool true) ∧ (W.alloc (.cells #[.int .i64 area] 3)) = w')) (HW6 : Hid (∀ (W : World) (g : Nat), g = W.heap.size → Calls Try.prog 39 #[.int .i64 0, .int .i64 1920, .slice (some ⟨g, 0, none⟩) 1 1] (W.alloc (.cells #[.int .i64 size] 3)) fun e w' => e = .returned (.bool true) ∧ (W.alloc (.cells #[.int .i64 size] 3)) = w')) :
    Calls Try.prog 11 #[.agg #[.int .i64 seq, .int .i64 who, .int .i64 count, .int .i64 view, .int .i64 logV, .int .i64 cop, .int .i64 cview, .int .u64 (csum : Int), .int .i64 area, .int .i64 size,
    .int .u64 (s0 : Int), .int .u64 (s1 : Int), .int .u64 (s2 : Int), .int .u64 (s3 : Int), .int .u64 (s4 : Int), .int .u64 (s5 : Int), .int .u64 (parent : Int)]] w (VE w (.bool true)) := by
  go_enter Try.func11, Try.ntmps11
  go_wp2_with (first
    | (go_at_call 39; refine (HW1.out _ _ (by simp)).mono ?_; rintro e w' ⟨rfl, rfl⟩; clear HW1)
    | (go_at_call 39; refine (HW2.out _ _ (by simp)).mono ?_; rintro e w' ⟨rfl, rfl⟩; clear HW2)
    | (go_at_call 39; refine (HW3.out _ _ (by simp)).mono ?_; rintro e w' ⟨rfl, rfl⟩; clear HW3)
    | (go_at_call 39; refine (HW4.out _ _ (by simp)).mono ?_; rintro e w' ⟨rfl, rfl⟩; clear HW4)
    | (go_at_call 39; refine (HW5.out _ _ (by simp)).mono ?_; rintro e w' ⟨rfl, rfl⟩; clear HW5)
    | (go_at_call 39; refine (HW6.out _ _ (by simp)).mono ?_; rintro e w' ⟨rfl, rfl⟩; clear HW6))
  go_ret
  refine ⟨rfl, ?_⟩
  repeat' first | exact Below.refl _ _ | refine Below.alloc ?_ (by simp <;> omega) _
include seq who count view logV cop cview area size csum s0 s1 s2 s3 s4 s5 parent w in
set_option maxHeartbeats 2000000 in
theorem right_1x5_0 (k3 : (count == 3) = false) (k5 : (count == 5) = false) (HW1 : Hid (∀ (W : World) (g : Nat), g = W.heap.size → Calls Try.prog 39 #[.int .i64 1, .int .i64 72057594037927935, .slice (some ⟨g, 0, none⟩) 1 1] (W.alloc (.cells #[.int .i64 seq] 3)) fun e w' => e = .returned (.bool true) ∧ (W.alloc (.cells #[.int .i64 seq] 3)) = w')) :
    Calls Try.prog 11 #[.agg #[.int .i64 seq, .int .i64 who, .int .i64 count, .int .i64 view, .int .i64 logV, .int .i64 cop, .int .i64 cview, .int .u64 (csum : Int), .int .i64 area, .int .i64 size,
    .int .u64 (s0 : Int), .int .u64 (s1 : Int), .int .u64 (s2 : Int), .int .u64 (s3 : Int), .int .u64 (s4 : Int), .int .u64 (s5 : Int), .int .u64 (parent : Int)]] w (VE w (.bool false)) := by
  go_enter Try.func11, Try.ntmps11
  go_wp2_with (first
    | (go_at_call 39; refine (HW1.out _ _ (by simp)).mono ?_; rintro e w' ⟨rfl, rfl⟩; clear HW1))
  go_ret
  refine ⟨rfl, ?_⟩
  repeat' first | exact Below.refl _ _ | refine Below.alloc ?_ (by simp <;> omega) _
include seq who count view logV cop cview area size csum s0 s1 s2 s3 s4 s5 parent w in
set_option maxHeartbeats 2000000 in
theorem right_1_None  (HW1 : Hid (∀ (W : World) (g : Nat), g = W.heap.size → Calls Try.prog 39 #[.int .i64 1, .int .i64 72057594037927935, .slice (some ⟨g, 0, none⟩) 1 1] (W.alloc (.cells #[.int .i64 seq] 3)) fun e w' => e = .returned (.bool false) ∧ (W.alloc (.cells #[.int .i64 seq] 3)) = w')) :
    Calls Try.prog 11 #[.agg #[.int .i64 seq, .int .i64 who, .int .i64 count, .int .i64 view, .int .i64 logV, .int .i64 cop, .int .i64 cview, .int .u64 (csum : Int), .int .i64 area, .int .i64 size,
    .int .u64 (s0 : Int), .int .u64 (s1 : Int), .int .u64 (s2 : Int), .int .u64 (s3 : Int), .int .u64 (s4 : Int), .int .u64 (s5 : Int), .int .u64 (parent : Int)]] w (VE w (.bool false)) := by
  go_enter Try.func11, Try.ntmps11
  go_wp2_with (first
    | (go_at_call 39; refine (HW1.out _ _ (by simp)).mono ?_; rintro e w' ⟨rfl, rfl⟩; clear HW1))
  go_ret
  refine ⟨rfl, ?_⟩
  repeat' first | exact Below.refl _ _ | refine Below.alloc ?_ (by simp <;> omega) _
end
theorem right_any (s : Su) (w : World) : Calls Try.prog 11 #[s.val] w (VE w (.bool (decide (SR s)))) := by
  rw [sr_bool s]
  have HW1 := hid (wiA 1 72057594037927935 [s.seq] #[.int .i64 s.seq] 1 (by simp) (by simp) rfl rfl)
  have HW2 := hid (wiA 1 s.count [s.who] #[.int .i64 s.who] 1 (by simp) (by simp) rfl rfl)
  have HW3 := hid (wiA 0 72057594037927935 [s.view, s.cop, s.cview] #[.int .i64 s.view, .int .i64 s.cop, .int .i64 s.cview] 3 (by simp) (by simp) rfl rfl)
  have HW4 := hid (wiA 0 s.view [s.logV] #[.int .i64 s.logV] 1 (by simp) (by simp) rfl rfl)
  have HW5 := hid (wiA 0 1 [s.area] #[.int .i64 s.area] 1 (by simp) (by simp) rfl rfl)
  have HW6 := hid (wiA 0 1920 [s.size] #[.int .i64 s.size] 1 (by simp) (by simp) rfl rfl)
  generalize wi 1 72057594037927935 [s.seq] = b1 at *
  generalize wi 1 s.count [s.who] = b2 at *
  generalize wi 0 72057594037927935 [s.view, s.cop, s.cview] = b3 at *
  generalize wi 0 s.view [s.logV] = b4 at *
  generalize wi 0 1 [s.area] = b5 at *
  generalize wi 0 1920 [s.size] = b6 at *
  obtain ⟨seq, who, count, view, logV, cop, cview, csum, area, size, s0, s1, s2, s3, s4, s5, parent⟩ := s
  simp only [Su.val, Su.cells] at *
  cases b1
  case false =>
    exact right_1_None seq who count view logV cop cview area size csum s0 s1 s2 s3 s4 s5 parent w HW1
  case true =>
    by_cases h3 : count = 3
    · have k3 : (count == 3) = true := by simp [h3]
      rw [decide_eq_true h3]
      cases b2
      case false =>
        exact right_2_3 seq who count view logV cop cview area size csum s0 s1 s2 s3 s4 s5 parent w k3 HW1 HW2
      case true =>
        cases b3
        case false =>
          exact right_3_3 seq who count view logV cop cview area size csum s0 s1 s2 s3 s4 s5 parent w k3 HW1 HW2 HW3
        case true =>
          cases b4
          case false =>
            exact right_4_3 seq who count view logV cop cview area size csum s0 s1 s2 s3 s4 s5 parent w k3 HW1 HW2 HW3 HW4
          case true =>
            cases b5
            case false =>
              exact right_5_3 seq who count view logV cop cview area size csum s0 s1 s2 s3 s4 s5 parent w k3 HW1 HW2 HW3 HW4 HW5
            case true =>
              cases b6
              case false =>
                exact right_6_3 seq who count view logV cop cview area size csum s0 s1 s2 s3 s4 s5 parent w k3 HW1 HW2 HW3 HW4 HW5 HW6
              case true =>
                exact right_7_3 seq who count view logV cop cview area size csum s0 s1 s2 s3 s4 s5 parent w k3 HW1 HW2 HW3 HW4 HW5 HW6
    · have k3 : (count == 3) = false := by simp [h3]
      rw [decide_eq_false h3]
      by_cases h5 : count = 5
      · have k5 : (count == 5) = true := by simp [h5]
        rw [decide_eq_true h5]
        cases b2
        case false =>
          exact right_2_5 seq who count view logV cop cview area size csum s0 s1 s2 s3 s4 s5 parent w k3 k5 HW1 HW2
        case true =>
          cases b3
          case false =>
            exact right_3_5 seq who count view logV cop cview area size csum s0 s1 s2 s3 s4 s5 parent w k3 k5 HW1 HW2 HW3
          case true =>
            cases b4
            case false =>
              exact right_4_5 seq who count view logV cop cview area size csum s0 s1 s2 s3 s4 s5 parent w k3 k5 HW1 HW2 HW3 HW4
            case true =>
              cases b5
              case false =>
                exact right_5_5 seq who count view logV cop cview area size csum s0 s1 s2 s3 s4 s5 parent w k3 k5 HW1 HW2 HW3 HW4 HW5
              case true =>
                cases b6
                case false =>
                  exact right_6_5 seq who count view logV cop cview area size csum s0 s1 s2 s3 s4 s5 parent w k3 k5 HW1 HW2 HW3 HW4 HW5 HW6
                case true =>
                  exact right_7_5 seq who count view logV cop cview area size csum s0 s1 s2 s3 s4 s5 parent w k3 k5 HW1 HW2 HW3 HW4 HW5 HW6
      · have k5 : (count == 5) = false := by simp [h5]
        rw [decide_eq_false h5]
        exact right_1x5_0 seq who count view logV cop cview area size csum s0 s1 s2 s3 s4 s5 parent w k3 k5 HW1
theorem fits_any (n lo hi : Int) (w : World) : Calls Try.prog 40 #[.int .i64 n, .int .i64 lo, .int .i64 hi] w fun e w' => e = .returned (.bool (wi lo hi [n])) ∧ w = w' := by
  have e0 : wi lo hi [n] = (decide (lo ≤ n) && decide (n ≤ hi)) := by simp [wi]
  rw [e0]
  by_cases h1 : lo ≤ n
  · by_cases h2 : n ≤ hi
    · rw [decide_eq_true h1, decide_eq_true h2]
      go_enter Try.func40, Try.ntmps40
      go_wp2_with fail
      go_ret
      exact ⟨by simp [*], rfl⟩
    · rw [decide_eq_true h1, decide_eq_false h2]
      have h3 : decide (n ≤ hi) = false := decide_eq_false h2
      go_enter Try.func40, Try.ntmps40
      go_wp2_with fail
      go_ret
      exact ⟨by simp [*], rfl⟩
  · rw [decide_eq_false h1]
    have h3 : decide (lo ≤ n) = false := decide_eq_false h1
    go_enter Try.func40, Try.ntmps40
    go_wp2_with fail
    go_ret
    exact ⟨by simp [*], rfl⟩
theorem sr_ref (s : Su) : decide (SR s) = (wi 1 72057594037927935 [s.seq] && wi 0 72057594037927935 [s.view] && wi 0 72057594037927935 [s.cop] && wi 0 72057594037927935 [s.cview] && (decide (s.count = 3) || decide (s.count = 5)) && wi 1 s.count [s.who] && wi 0 s.view [s.logV] && wi 0 1 [s.area] && wi 0 1920 [s.size]) := by
  rw [Bool.eq_iff_iff, decide_eq_true_iff]
  unfold SR wi
  simp only [List.all_cons, List.all_nil, Bool.and_true, Bool.and_eq_true, Bool.or_eq_true, decide_eq_true_eq]
  constructor
  · rintro ⟨h1, h2, h3, ⟨h4, h5, h6⟩, h7, h8, h9⟩
    exact ⟨⟨⟨⟨⟨⟨⟨⟨h1, h4⟩, h5⟩, h6⟩, h2⟩, h3⟩, h7⟩, h8⟩, h9⟩
  · rintro ⟨⟨⟨⟨⟨⟨⟨⟨h1, h4⟩, h5⟩, h6⟩, h2⟩, h3⟩, h7⟩, h8⟩, h9⟩
    exact ⟨h1, h2, h3, ⟨h4, h5, h6⟩, h7, h8, h9⟩
end Go.Proofs.Ytogchfpecbmocaa
