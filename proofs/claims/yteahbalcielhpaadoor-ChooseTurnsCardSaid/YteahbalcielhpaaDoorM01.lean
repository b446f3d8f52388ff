/-
  Small plain lemmas about memory that the walks of this seat use: rows of cells, byte lists, new blocks, copies, appends.
-/
import Derived.WalkKit
import Derived.WalkSpells
import Derived.WalkLawsBesides
import Derived.Laws.CopyOwn
import Derived.Maps.AppendAt
import Derived.Deep.RegionLaw
import Derived.Lib.AppendStr
import Derived.Laws.IdiomStrings
namespace Go.Proofs.YteahbalcielhpaaDoor
open Go.RowKit

theorem hid {p : Prop} (h : p) : Hid p := h
theorem le_maxLen {n : Nat} (h : n ≤ 281474976710656) : n ≤ maxLen := by unfold maxLen; omega
/-- a byte as a value -/
def bv (b : UInt8) : Value := .int .u8 (b.toNat : Int)
def bvs (bs : List UInt8) : List Value := bs.map bv
theorem bvs_len (bs : List UInt8) : (bvs bs).length = bs.length := by simp [bvs]
theorem bvs_app (a b : List UInt8) : bvs (a ++ b) = bvs a ++ bvs b := by simp [bvs]
theorem bvs_one (bs : List UInt8) : ∀ u ∈ bvs bs, u.oneCell' = true := by
  intro u hu
  simp only [bvs, List.mem_map] at hu
  obtain ⟨b, _, rfl⟩ := hu
  rfl
theorem add_lit (g o j : Nat) : (⟨g, o, none⟩ : Addr).add j = ⟨g, o + j, none⟩ := by unfold Addr.add; split <;> simp_all
/-- block g holds just the cells cs -/
def Row (w : World) (g : Nat) (e : TypeId) (cs : List Value) : Prop := w.heap[g]? = some (.cells cs.toArray e (0, 0))
/-- the cells xs lie from the address A on, in a block below B -/
def Rd (w : World) (B : Nat) (A : Option Addr) (xs : List Value) : Prop :=
  xs ≠ [] → ∃ g o, A = some ⟨g, o, none⟩ ∧ g < B ∧ ∀ j u, xs[j]? = some u → w.cell? ⟨g, o + j, none⟩ = some u
section
variable {w w' : World} {g B B' : Nat} {e : TypeId} {cs xs : List Value} {A : Option Addr}

theorem Row.lt (h : Row w g e cs) : g < w.heap.size := (Array.getElem?_eq_some_iff.1 h).1
theorem Row.cell (h : Row w g e cs) (i : Nat) : w.cell? ⟨g, i, none⟩ = cs[i]? := by
  rw [cell_of_row w g i cs.toArray e (0, 0) h]; simp
theorem Row.frozen (h : Row w g e cs) (i : Nat) : w.frozen? ⟨g, i, none⟩ = false := frozen_of_row w g i cs.toArray e h
theorem Row.below (h : Row w g e cs) (hb : Below B w w') (hg : g < B) : Row w' g e cs := (hb.block g hg).trans h
theorem Row.drew (h : Row w g e cs) : Row w.drew g e cs := h
theorem Row.alloc (h : Row w g e cs) (o : Obj) : Row (w.alloc o) g e cs := (Below.heap_alloc w o g h.lt).trans h
theorem Row.new (w : World) (e : TypeId) (cs : Array Value) : Row (w.alloc (.cells cs e)) w.heap.size e cs.toList := by
  show _ = _
  rw [heap_alloc_new]
theorem Row.set_ (h : Row w g e cs) (i : Nat) (u : Value) : Row (w.setCell ⟨g, i, none⟩ u) g e (cs.set i u) := by
  have := heap_setCell_same w g i cs.toArray e u h
  simpa [Row] using this
theorem Row.far (h : Row w g e cs) {p : Addr} (hp : g ≠ p.block) (u : Value) : Row (w.setCell p u) g e cs := (heap_setCell_other w p g u hp).trans h
theorem Row.grown {row : Option Nat} (h : Row w g e cs) (hb : w.grownBy w' row) (hg : some g ≠ row) : Row w' g e cs := (hb.block g h.lt hg).trans h
theorem Row.own (h : Row w g e cs) (hB : B ≤ g) (hm : cs.length ≤ maxLen) : w.ownsRow B e 1 (.slice (some ⟨g, 0, none⟩) cs.length cs.length) cs.length cs :=
  ⟨by simp, .inr ⟨g, cs.length, cs.toArray, rfl, hB, h, Nat.le_refl _, hm, by simp, by simp⟩⟩
theorem Row.rd (h : Row w g e cs) (hB : g < B) : Rd w B (some ⟨g, 0, none⟩) cs := fun _ =>
  ⟨g, 0, rfl, hB, fun j u hu => by rw [h.cell]; simpa using hu⟩
theorem Rd.nil : Rd w B A [] := fun h => absurd rfl h
theorem Rd.at_ (h : Rd w B A xs) {j : Nat} (hj : j < xs.length) : ∃ g o, A = some ⟨g, o, none⟩ ∧ g < B ∧ w.cell? ⟨g, o + j, none⟩ = some xs[j] := by
  obtain ⟨g, o, e, hB, hc⟩ := h (by intro e; subst e; simp at hj)
  exact ⟨g, o, e, hB, hc j _ (List.getElem?_eq_getElem hj)⟩
theorem Rd.below (h : Rd w B A xs) (hb : Below B' w w') (hB : B ≤ B') : Rd w' B A xs := fun hn => by
  obtain ⟨g, o, e, hg, hc⟩ := h hn
  exact ⟨g, o, e, hg, fun j u hu => (hb.cell (p := ⟨g, o + j, none⟩) (by show g < B'; omega)).trans (hc j u hu)⟩
theorem Rd.more (h : Rd w B A xs) (hB : B ≤ B') : Rd w B' A xs := fun hn => by
  obtain ⟨g, o, e, hg, hc⟩ := h hn
  exact ⟨g, o, e, by omega, hc⟩
theorem Rd.drew (h : Rd w B A xs) : Rd w.drew B A xs := h
theorem Rd.take (h : Rd w B A xs) (n : Nat) : Rd w B A (xs.take n) := fun hn => by
  obtain ⟨g, o, e, hg, hc⟩ := h (by intro e; subst e; simp at hn)
  refine ⟨g, o, e, hg, fun j u hu => hc j u ?_⟩
  rw [List.getElem?_take] at hu
  split at hu
  · exact hu
  · cases hu
theorem Rd.of_own {c : Nat} (h : w.ownsRow B' e 1 (.slice A xs.length c) xs.length xs) : Rd w w.heap.size A xs := fun hn => by
  rcases h.2 with ⟨hv, h0⟩ | ⟨g, cap, cur, hv, hb, hh, h1, h2, h3, h4⟩
  · exact absurd (List.eq_nil_of_length_eq_zero h0) hn
  · simp only [Value.slice.injEq, true_and] at hv
    obtain ⟨rfl, rfl⟩ := hv
    refine ⟨g, 0, rfl, (Array.getElem?_eq_some_iff.1 hh).1, fun j u hu => ?_⟩
    rw [cell_of_row w g _ cur e (0, 0) hh]
    rw [← h4, List.getElem?_take] at hu
    split at hu
    · simpa using hu
    · cases hu
end

/-- make([]T, n) of one-cell elements -/
theorem wpl_make {P : Program} {w : World} {ops : Array Oper} {rest : List Oper} {o : Oper} {a : Act} {Q : Exit → Act → World → Prop}
    (hg : o.guard = none) (l c : Operand) (t : TypeId) (hop : o.op = Op.makeSlice t l c)
    (e : TypeId) (i : TypeInfo) (z : Value) (h1 : P.underlying t = some (.slice e)) (h2 : P.info? e = some i) (h3 : i.zero = some z) (h4 : i.size = 1) (hz : z.cells = #[z])
    (kl kc : IntKind) (L C : Int) (n : Nat) (hl : a.eval l = .int kl L) (hc : a.eval c = .int kc C)
    (hK : ∀ g w', Hid (g = w.heap.size) → Row w' g e (List.replicate n z) → Below g w w' → wpList P ops Q rest (a.put o.dst (.slice (some ⟨g, 0, none⟩) n n)) w')
    (hL : Hid (L = (n : Int))) (hC : Hid (C = (n : Int))) (b2 : Hid (i.bytes * n ≤ 281474976710656)) (b3 : Hid (n ≤ maxLen)) :
    wpList P ops Q (o :: rest) a w := by
  refine wpList_make_full w hg l c t hop w.heap.size e i z 1 h1 h2 h3 h4 kl kc L C n hl hc hL.out hC.out b2.out b3.out (Nat.le_refl _) fun w' hown hgr => hK _ w' (hid rfl) ?_ ((Below.refl _ _).grown hgr (Nat.le_refl _) (by intro k hk; cases hk))
  rcases hown.2 with ⟨hv, _⟩ | ⟨g, cap, cur, hv, _, hh, _, _, h5, h6⟩
  · simp at hv
  · simp only [Value.slice.injEq, Option.some.injEq, Addr.mk.injEq, true_and, and_true] at hv
    obtain ⟨rfl, rfl⟩ := hv
    have : cur = (List.replicate n z).toArray := by
      apply Array.toList_inj.1
      have h7 : cur.toList.take (n * 1) = cur.toList := List.take_of_length_le (by simp only [Array.length_toList]; omega)
      rw [← h7, h6, hz, toList_madeCells_one]
      simp
    subst this
    exact hh
theorem grownBy_setRow (w : World) (g : Nat) (cs : Array Value) : w.grownBy (w.setRow g cs) (some g) :=
  ⟨rfl, rfl, rfl, by simp [World.setRow], fun k _ hk => setRow_other w g k cs (fun e => hk (by simp [e]))⟩
theorem below_grown {B : Nat} {w w' : World} {g : Nat} (hg : w.grownBy w' (some g)) (hB : B ≤ g) (hs : B ≤ w.heap.size) : Below B w w' :=
  (Below.refl _ _).grown hg hs (by intro k hk; cases hk; exact hB)
/-- copy(dst, src), dst in a row that is known whole, src whatever reads as cs or more -/
theorem wpo_copy {P : Program} {w : World} {o : Oper} {a : Act} {K : Act → World → Prop} {Q : Exit → Act → World → Prop} (d s : Operand) (dT sT : TypeId)
    (ho : o.op = .call { callee := .builtin .copy, args := #[d, s], argTypes := #[dT, sT] }) (elem : TypeId) (hu : P.underlying dT = some (.slice elem)) (hsz : (P.info? elem).map (·.size) = some 1)
    (dp sp : Option Addr) (dLen dCap sLen sCap : Nat) (hd : a.eval d = .slice dp dLen dCap) (hs : a.eval s = .slice sp sLen sCap)
    (g off : Nat) (cur : List Value) (t : TypeId) (hg : Row w g t cur) (B : Nat) (cs : List Value)
    (h : ∀ w', Row w' g t (splice cur off cs) → w.grownBy w' (some g) → K (a.put o.dst (goInt cs.length)) w')
    (hrd : Hid (Rd w B sp cs)) (hn : Hid (cs.length = Nat.min sLen dLen)) (hpos : Hid (0 < cs.length → dp = some ⟨g, off, none⟩))
    (hfit : Hid (off + cs.length ≤ cur.length)) (h1 : Hid (∀ v ∈ cs, v.oneCell' = true)) : o.wp P a w K Q := by
  by_cases h0 : cs.length = 0
  · obtain rfl : cs = [] := List.eq_nil_of_length_eq_zero h0
    have hrun := run_copy_none (P := P) w dT sT o.type elem dp sp dLen dCap sLen sCap hu hsz (by simpa using hn.out.symm)
    unfold Oper.wp
    simp [execOp, ho, resolve, invoke, builtin, hd, hs, hrun, Result.andThen]
    exact h w (by simpa [splice] using hg) (World.grownBy.refl w _)
  · obtain rfl := hpos.out (by omega)
    obtain ⟨sg, so, rfl, _, hsrc⟩ := hrd.out (by intro e; subst e; simp at h0)
    have hrun := run_copy_row (P := P) w dT sT o.type elem g off dLen dCap ⟨sg, so, none⟩ sLen sCap cur.toArray t cs hu hsz hg hn.out (fun j v hv => by rw [add_lit]; exact hsrc j v hv) (by simpa using hfit.out) h1.out
    unfold Oper.wp
    simp [execOp, ho, resolve, invoke, builtin, hd, hs, hrun, Result.andThen]
    exact h _ (by simpa [splice, Row] using setRow_heap w g _ _ t _ hg) (grownBy_setRow w g _)
theorem wpl_copy {P : Program} {w : World} {ops : Array Oper} {rest : List Oper} {o : Oper} {a : Act} {Q : Exit → Act → World → Prop} (hgd : o.guard = none) (d s : Operand) (dT sT : TypeId)
    (ho : o.op = .call { callee := .builtin .copy, args := #[d, s], argTypes := #[dT, sT] }) (elem : TypeId) (hu : P.underlying dT = some (.slice elem)) (hsz : (P.info? elem).map (·.size) = some 1)
    (dp sp : Option Addr) (dLen dCap sLen sCap : Nat) (hd : a.eval d = .slice dp dLen dCap) (hs : a.eval s = .slice sp sLen sCap)
    (g off : Nat) (cur : List Value) (t : TypeId) (hg : Row w g t cur) (B : Nat) (cs : List Value)
    (h : ∀ w', Row w' g t (splice cur off cs) → w.grownBy w' (some g) → wpList P ops Q rest (a.put o.dst (goInt cs.length)) w')
    (hrd : Hid (Rd w B sp cs)) (hn : Hid (cs.length = Nat.min sLen dLen)) (hpos : Hid (0 < cs.length → dp = some ⟨g, off, none⟩))
    (hfit : Hid (off + cs.length ≤ cur.length)) (h1 : Hid (∀ v ∈ cs, v.oneCell' = true)) : wpList P ops Q (o :: rest) a w :=
  wpList_plain hgd fun _ hK => wpo_copy d s dT sT ho elem hu hsz dp sp dLen dCap sLen sCap hd hs g off cur t hg B cs (fun w' h2 h3 => hK _ _ (h w' h2 h3)) hrd hn hpos hfit h1
theorem step_of_wpo {P : Program} {ops : Array Oper} {o : Oper} {a : Act} {w : World} {K : Act → World → Prop} {Q : Exit → Act → World → Prop} {E : Prop} (hgd : o.guard = none)
    (h : o.wp P a w K Q) : if Region.wanted o (yielded ops a.tmps) = true then Oper.wp P o a w K Q else E := by
  have hw : Region.wanted o (yielded ops a.tmps) = true := by simp [Region.wanted, hgd]
  rw [if_pos hw]
  exact h
/-- string(b) -/
theorem run_str {P : Program} (w : World) (src e : TypeId) (hs : P.underlying src = some (.slice e)) (he : P.underlying e = some (.int .u8)) (dst : TypeId) (hd : P.underlying dst = some .string)
    (B : Nat) (A : Option Addr) (bs : List UInt8) (l c : Nat) (hl : l = bs.length) (hr : Rd w B A (bvs bs)) :
    (convert src dst (.slice A l c)).run P w = .ok (.string ⟨bs.toArray⟩) w := by
  subst hl
  rw [run_convert_bytes_string w src dst e _ _ c hs he hd]
  rcases A with _ | a
  · have : bs = [] := by
      rcases bs with _ | ⟨b, r⟩
      · rfl
      · obtain ⟨g, o, h, _⟩ := hr (by simp [bvs])
        cases h
    subst this
    simp [Conv.bytesToString]
    rfl
  · have hx : (loadCells a (bs.map fun b => (b.toNat : Int)).length).run P w = .ok ((bs.map fun b => (b.toNat : Int)).map (Value.int .u8)).toArray w := by
      have := run_loadCells_list (P := P) w a (bvs bs) (fun j v hj => by
        obtain ⟨g, o, h, _, hc⟩ := hr (by intro e; rw [e] at hj; simp at hj)
        cases h
        rw [add_lit]
        exact hc j v hj)
      simp only [bvs_len] at this
      simp only [List.length_map, List.map_map]
      exact this
    have hb := run_bytesToString (P := P) w a bs.length c (bs.map fun b => (b.toNat : Int)) (by rw [List.length_map] at hx; exact hx)
    rw [hb, foldl_push_bytes]
    have h3 : ((bs.map fun b => (b.toNat : Int)).map fun n => UInt8.ofNat n.toNat) = bs := by
      rw [List.map_map]
      conv => rhs; rw [← List.map_id bs]
      apply List.map_congr_left
      intro b _
      simp
    rw [h3]
    simp [ByteArray.empty, ByteArray.emptyWithCapacity]
    rfl
/-- append(out, xs...), out a row of the call's own, xs whatever reads as news -/
theorem wpo_append {P : Program} {w : World} {o : Oper} {a : Act} {K : Act → World → Prop} {Q : Exit → Act → World → Prop} (s x : Operand) (t : TypeId)
    (ho : o.op = .call { callee := .builtin .append, args := #[s, x], argTypes := #[t, t] })
    (base : Nat) (e : TypeId) (i : TypeInfo) (z : Value) (size bytes : Nat) (ht : P.underlying t = some (.slice e)) (hi : P.info? e = some i) (hz : i.zero = some z)
    (hsize : i.size = size) (hby : i.bytes = bytes) (hzs : z.cells.size = size) (hsz : 0 < size)
    (v : Value) (n : Nat) (xs : List Value) (hs : a.eval s = v) (hown : w.ownsRow base e size v n xs)
    (B : Nat) (A : Option Addr) (m c : Nat) (news : List Value) (hx : a.eval x = .slice A m c)
    (h : ∀ v' w', w'.ownsRow base e size v' (n + m) (xs ++ news) → Below base w w' → Hid (w.grownBy w' v.ownBlock) → K (a.put o.dst v') w')
    (hr : Hid (Rd w B A news)) (hl : Hid (news.length = m * size)) (h1 : Hid (∀ u ∈ news, u.oneCell' = true))
    (h63 : Hid (n + m ≤ maxLen)) (hbytes : Hid ((n + m) * bytes ≤ 140737488355328)) (hbase : Hid (base ≤ w.heap.size)) : o.wp P a w K Q := by
  have key : ∃ v' w', (Builtin.append_ #[t, t] o.type #[v, .slice A m c]).run P w = .ok v' w' ∧ w'.ownsRow base e size v' (n + m) (xs ++ news) ∧ w.grownBy w' v.ownBlock := by
    rcases A with _ | ad
    · have hn : news = [] := by
        rcases news with _ | ⟨b, r⟩
        · rfl
        · obtain ⟨g, o, h, _⟩ := hr.out (by simp)
          cases h
      subst hn
      have hm : m = 0 := by
        have := hl.out
        rcases Nat.eq_zero_or_pos m with h0 | h0
        · exact h0
        · have := Nat.mul_pos h0 hsz
          simp_all
      subst hm
      refine ⟨v, w, ?_, by simpa using hown, World.grownBy.refl w _⟩
      rcases hown.2 with ⟨rfl, rfl⟩ | ⟨g, cap, cur, rfl, _, _, hnc, _⟩
      · simp [Builtin.append_, run_underlying ht, sizeOf, typeInfo, hi, Builtin.lenOf, Builtin.firstCells]
      · simp [Builtin.append_, run_underlying ht, sizeOf, typeInfo, hi, Builtin.lenOf, Builtin.firstCells, hnc, storeCells]
    · by_cases hne : news = []
      · subst hne
        obtain ⟨v', w', hrun, h2, h3, _⟩ := run_append_own_at (P := P) w base t o.type e i z size bytes ht hi hz hsize hby hzs hsz v n xs hown ad m c [] hl.out (by intro j u hu; simp at hu) h1.out h63.out hbytes.out hbase.out
        exact ⟨v', w', hrun, h2, h3⟩
      · obtain ⟨g, so, h, _, hc⟩ := hr.out hne
        cases h
        obtain ⟨v', w', hrun, h2, h3, _⟩ := run_append_own_at (P := P) w base t o.type e i z size bytes ht hi hz hsize hby hzs hsz v n xs hown ⟨g, so, none⟩ m c news hl.out (by intro j u hu; rw [add_lit]; exact hc j u hu) h1.out h63.out hbytes.out hbase.out
        exact ⟨v', w', hrun, h2, h3⟩
  obtain ⟨v', w', hrun, h2, h3⟩ := key
  unfold Oper.wp execOp
  simp only [ho, resolve, invoke, builtin, Sem.run_bind, Sem.run_pure, Result.andThen_ok, List.map_toArray, List.map_cons, List.map_nil, hs, hx, hrun]
  exact h v' w' h2 ((Below.refl _ _).grown h3 hbase.out (fun k hk => (hown.lt k hk).1)) (hid h3)
theorem wpl_append {P : Program} {w : World} {ops : Array Oper} {rest : List Oper} {o : Oper} {a : Act} {Q : Exit → Act → World → Prop} (hgd : o.guard = none) (s x : Operand) (t : TypeId)
    (ho : o.op = .call { callee := .builtin .append, args := #[s, x], argTypes := #[t, t] })
    (base : Nat) (e : TypeId) (i : TypeInfo) (z : Value) (size bytes : Nat) (ht : P.underlying t = some (.slice e)) (hi : P.info? e = some i) (hz : i.zero = some z)
    (hsize : i.size = size) (hby : i.bytes = bytes) (hzs : z.cells.size = size) (hsz : 0 < size)
    (v : Value) (n : Nat) (xs : List Value) (hs : a.eval s = v) (hown : w.ownsRow base e size v n xs)
    (B : Nat) (A : Option Addr) (m c : Nat) (news : List Value) (hx : a.eval x = .slice A m c)
    (h : ∀ v' w', w'.ownsRow base e size v' (n + m) (xs ++ news) → Below base w w' → Hid (w.grownBy w' v.ownBlock) → wpList P ops Q rest (a.put o.dst v') w')
    (hr : Hid (Rd w B A news)) (hl : Hid (news.length = m * size)) (h1 : Hid (∀ u ∈ news, u.oneCell' = true))
    (h63 : Hid (n + m ≤ maxLen)) (hbytes : Hid ((n + m) * bytes ≤ 140737488355328)) (hbase : Hid (base ≤ w.heap.size)) : wpList P ops Q (o :: rest) a w :=
  wpList_plain hgd fun _ hK => wpo_append s x t ho base e i z size bytes ht hi hz hsize hby hzs hsz v n xs hs hown B A m c news hx (fun v' w' a b c => hK _ _ (h v' w' a b c)) hr hl h1 h63 hbytes hbase
/-- arr[i] of an array by value, its elements of one cell -/
theorem run_index_arr {P : Program} (w : World) (t e n : Nat) (cs : Array Value) (k : IntKind) (i : Nat) (v : Value) (ik : IntKind) (h : P.underlying t = some (.array n e)) (he : P.underlying e = some (.int ik))
    (hs : (P.info? e).map (·.size) = some 1) (hi : i < n) (hv : cs[i]? = some v) : (Instr.index t (.agg cs) (.int k i)).run P w = .ok v w := by
  obtain ⟨j, hj, hjs⟩ := Option.map_eq_some_iff.1 hs
  have h1 : (0 : Int) ≤ i ∧ (i : Int) < (n : Int) := by omega
  simp [Instr.index, run_underlying h, asIntOf, sizeOf, typeInfo, hj, hjs, part, isAgg, run_underlying he, hi, hv]
/-- a string's bytes -/
def sb (s : ByteArray) : List UInt8 := s.data.toList
theorem sb_len (s : ByteArray) : (sb s).length = s.size := by rw [sb, Array.length_toList]; rfl
theorem sb_mk (bs : List UInt8) : sb ⟨bs.toArray⟩ = bs := by simp [sb]
/-- append(out, s...), out a row of the call's own, s a string -/
theorem wpl_append_str {P : Program} {w : World} {ops : Array Oper} {rest : List Oper} {o : Oper} {a : Act} {Q : Exit → Act → World → Prop} (hgd : o.guard = none) (sl x : Operand) (t u : TypeId)
    (ho : o.op = .call { callee := .builtin .append, args := #[sl, x], argTypes := #[t, u] })
    (base : Nat) (e : TypeId) (i : TypeInfo) (ht : P.underlying t = some (.slice e)) (hu : P.underlying u = some .string) (hi : P.info? e = some i) (hz : i.zero = some (.int .u8 0)) (hsize : i.size = 1) (hby : i.bytes = 1)
    (v : Value) (n : Nat) (xs : List Value) (hs : a.eval sl = v) (hown : w.ownsRow base e 1 v n xs) (s : ByteArray) (hx : a.eval x = .string s)
    (h : ∀ v' w', w'.ownsRow base e 1 v' (n + s.size) (xs ++ bvs (sb s)) → Below base w w' → Hid (w.grownBy w' v.ownBlock) → wpList P ops Q rest (a.put o.dst v') w')
    (h63 : Hid (n + s.size ≤ maxLen)) (hbytes : Hid (n + s.size ≤ 140737488355328)) (hbase : Hid (base ≤ w.heap.size)) : wpList P ops Q (o :: rest) a w := by
  refine wpList_plain hgd fun K hK => ?_
  obtain ⟨v', w', hrun, h2, h3, _⟩ := Lib.run_append_own_string (P := P) w base t u o.type e i ht hu hi hz hsize hby v n xs hown s h63.out hbytes.out hbase.out
  unfold Oper.wp execOp
  simp only [ho, resolve, invoke, builtin, Sem.run_bind, Sem.run_pure, Result.andThen_ok, List.map_toArray, List.map_cons, List.map_nil, hs, hx, hrun]
  exact hK _ _ (h v' w' h2 ((Below.refl _ _).grown h3 hbase.out (fun k hk => (hown.lt k hk).1)) (hid h3))
/-- string(b), as a step of the walk -/
theorem wpl_str {P : Program} {w : World} {ops : Array Oper} {rest : List Oper} {o : Oper} {a : Act} {Q : Exit → Act → World → Prop} (hgd : o.guard = none) (x : Operand) (src dst : TypeId)
    (ho : o.op = .convert src dst x) (e : TypeId) (hs : P.underlying src = some (.slice e)) (he : P.underlying e = some (.int .u8)) (hd : P.underlying dst = some .string)
    (A : Option Addr) (l c : Nat) (hx : a.eval x = .slice A l c) (B : Nat) (bs : List UInt8)
    (h : wpList P ops Q rest (a.put o.dst (.string ⟨bs.toArray⟩)) w)
    (hr : Hid (Rd w B A (bvs bs))) (hl : Hid (l = bs.length)) : wpList P ops Q (o :: rest) a w := by
  refine wpList_plain hgd fun K hK => ?_
  unfold Oper.wp execOp
  simp only [ho, Sem.run_bind, Sem.run_pure, Result.andThen_ok, hx, run_str w src e hs he dst hd B A bs l c hl.out hr.out]
  exact hK _ _ h
end Go.Proofs.YteahbalcielhpaaDoor
/-
  More plain lemmas about memory: the new bytes of a text, which bear the run-time's mark behind their last cell.
-/
namespace Go.Proofs.YteahbalcielhpaaDoor
open Go.RowKit

/-- block g holds just the cells cs, and the mark stands behind them -/
def FRow (w : World) (g : Nat) (e : TypeId) (cs : List Value) : Prop := w.heap[g]? = some (.cells cs.toArray e (cs.length, cs.length + 1))
section
variable {w w' : World} {g B : Nat} {e : TypeId} {cs : List Value}
theorem FRow.lt (h : FRow w g e cs) : g < w.heap.size := (Array.getElem?_eq_some_iff.1 h).1
theorem FRow.cell (h : FRow w g e cs) (i : Nat) : w.cell? ⟨g, i, none⟩ = cs[i]? := by
  rw [cell_of_row w g i cs.toArray e _ h]; simp
theorem FRow.frozen (h : FRow w g e cs) (i : Nat) (hi : i < cs.length) : w.frozen? ⟨g, i, none⟩ = false := by
  unfold FRow at h
  simp [World.frozen?, h]
  omega
theorem FRow.below (h : FRow w g e cs) (hb : Below B w w') (hg : g < B) : FRow w' g e cs := (hb.block g hg).trans h
theorem FRow.alloc (h : FRow w g e cs) (o : Obj) : FRow (w.alloc o) g e cs := (Below.heap_alloc w o g h.lt).trans h
theorem FRow.far (h : FRow w g e cs) {p : Addr} (hp : g ≠ p.block) (u : Value) : FRow (w.setCell p u) g e cs := (heap_setCell_other w p g u hp).trans h
theorem FRow.set_ (h : FRow w g e cs) (i : Nat) (u : Value) : FRow (w.setCell ⟨g, i, none⟩ u) g e (cs.set i u) := by
  unfold FRow at h ⊢
  simp [World.setCell, Array.getElem?_modify, h]
theorem FRow.rd (h : FRow w g e cs) (hB : g < B) : Rd w B (some ⟨g, 0, none⟩) cs := fun _ =>
  ⟨g, 0, rfl, hB, fun j u hu => by rw [h.cell]; simpa using hu⟩
end

/-- []byte(s), as a step of the walk -/
theorem wpl_bytes {P : Program} {w : World} {ops : Array Oper} {rest : List Oper} {o : Oper} {a : Act} {Q : Exit → Act → World → Prop} (hgd : o.guard = none) (x : Operand) (src dst : TypeId)
    (ho : o.op = .convert src dst x) (e : TypeId) (hs : P.underlying src = some .string) (hd : P.underlying dst = some (.slice e)) (he : P.underlying e = some (.int .u8))
    (s : ByteArray) (hx : a.eval x = .string s)
    (h : ∀ g c k w', Hid (g = w.heap.size) → Hid (s.size ≤ c) → FRow w' g e (bvs (sb s) ++ List.replicate k (.int .u8 0)) → Below w.heap.size w w' →
      wpList P ops Q rest (a.put o.dst (.slice (some ⟨g, 0, none⟩) s.size c)) w') : wpList P ops Q (o :: rest) a w := by
  refine wpList_plain hgd fun K hK => ?_
  have hrow : bytesRow s (grownCap w s.size 0 e) = (bvs (sb s) ++ List.replicate (grownCap w s.size 0 e - s.size) (Value.int .u8 0)).toArray := by
    apply Array.toList_inj.1
    simp [bytesRow, bvs, sb]
    intro b _
    rfl
  have hlen : (bytesRow s (grownCap w s.size 0 e)).size = (bvs (sb s) ++ List.replicate (grownCap w s.size 0 e - s.size) (Value.int .u8 0)).length := by rw [hrow]; simp
  unfold Oper.wp execOp
  simp only [ho, Sem.run_bind, Sem.run_pure, Result.andThen_ok, hx, run_bytes_of_string w src dst e s hs hd he]
  refine hK _ _ (h w.heap.size _ (grownCap w s.size 0 e - s.size) _ (hid rfl) (hid (grownCap_ge w s.size 0 e)) ?_ ((Below.refl _ _).drew.alloc (Nat.le_refl _) _))
  unfold FRow
  rw [hlen, hrow]
  exact heap_alloc_new _ _
end Go.Proofs.YteahbalcielhpaaDoor
/-
  append(b, make([]byte, n)...) of a row of the call's own: the same bytes, and n noughts behind them.
-/
namespace Go.Proofs.YteahbalcielhpaaDoor
open Go.RowKit

theorem zeroes_u8 (n : Nat) : Builtin.zeroCells #[Value.int .u8 0] n = (List.replicate n (Value.int .u8 0)).toArray := by
  apply Array.ext
  · simp [Builtin.zeroCells]
  · intro i h1 h2
    simp [Builtin.zeroCells, Nat.mod_one]
theorem run_append_zeros {P : Program} (w : World) (base : Nat) (t u ty e : TypeId) (i : TypeInfo) (ik : IntKind) (ht : P.underlying t = some (.slice e)) (hu : P.underlying u = some (.int ik)) (hi : P.info? e = some i) (hz : i.zero = some (.int .u8 0))
    (hsize : i.size = 1) (hby : i.bytes = 1) (v : Value) (n : Nat) (xs : List Value) (hown : w.ownsRow base e 1 v n xs) (m : Nat) (h0 : 0 < n) (h63 : n + m ≤ 140737488355328) (hbase : base ≤ w.heap.size) :
    ∃ v' w', (Builtin.append_ #[t, u] ty #[v, .int .i64 m]).run P w = .ok v' w' ∧ w'.ownsRow base e 1 v' (n + m) (xs ++ List.replicate m (.int .u8 0)) ∧ w.grownBy w' v.ownBlock := by
  have hw : IntKind.i64.wrap (m : Int) = m := by rw [IntKind.wrap_i64]; omega
  have hm63 : n + m ≤ maxLen := by simp only [maxLen]; omega
  have hlen : (xs ++ List.replicate m (Value.int .u8 0)).length = (n + m) * 1 := by rw [List.length_append, hown.1]; simp
  have hneg : ¬ ((m : Int) < 0) := by omega
  have h48i : ¬ (281474976710656 < (m : Int)) := by omega
  have hone : ∀ u ∈ List.replicate m (Value.int .u8 0), u.oneCell' = true := by
    intro u hu
    rw [(List.mem_replicate.1 hu).2]
    rfl
  rcases hown.2 with ⟨rfl, h⟩ | ⟨g, cap, cur, rfl, hbg, hg, hnc, hcm, hcs, htake⟩
  · omega
  · have hx1 := hown.1
    by_cases hroom : n + m ≤ cap
    · have hst := run_storeCells_at P g (n * 1) e (List.replicate m (Value.int .u8 0)) 0 cur w hg (by simp; omega) hone
      simp only [Nat.add_zero] at hst
      have hr : (Builtin.append_ #[t, u] ty #[.slice (some ⟨g, 0, none⟩) n cap, .int .i64 m]).run P w = .ok (.slice (some ⟨g, 0, none⟩) (n + m) cap) (w.setRow g (cur.toList.take (n * 1) ++ List.replicate m (Value.int .u8 0) ++ cur.toList.drop (n * 1 + (List.replicate m (Value.int .u8 0)).length)).toArray) := by
        by_cases hm : m = 0
        · subst hm
          have he : (List.take n cur.toList ++ List.drop n cur.toList).toArray = cur := by simp
          have hsr : w.setRow g cur = w := by
            have := setRow_heap w g cur cur e (0, 0) hg
            unfold World.setRow
            congr 1
            apply Array.ext
            · simp
            · intro j h1 h2
              by_cases hj : j = g
              · subst hj
                have h3 := (Array.getElem?_eq_some_iff.1 hg).2
                simp [Array.getElem_modify, h3]
              · simp [Array.getElem_modify, Ne.symm hj]
          simp [Builtin.append_, run_underlying ht, run_underlying hu, sizeOf, typeInfo, hi, hby, asInt, asIntOf, show IntKind.i64.wrap 0 = 0 from rfl, hnc, storeCells, hsr]
        · simp [Builtin.append_, run_underlying ht, run_underlying hu, sizeOf, typeInfo, zeroValue, hi, hz, hsize, hby, asInt, asIntOf, hw, hneg, h48i, hroom, hm, Value.cells, zeroes_u8, Addr.add_lit] at hst ⊢
          simp [hst]
      refine ⟨_, _, hr, ⟨hlen, .inr ⟨g, cap, _, rfl, hbg, setRow_heap w g cur _ e _ hg, hroom, hcm, ?_, ?_⟩⟩, ⟨rfl, rfl, rfl, by simp, fun k _ hk => setRow_other w g k _ (fun e => hk (by simp [Value.ownBlock, e]))⟩⟩
      · simp
        omega
      · rw [htake, ← hlen]
        exact List.take_left
    · have holds : ∀ j u, xs[j]? = some u → w.cell? ((⟨g, 0, none⟩ : Addr).add j) = some u := hown.cells (g := g) rfl
      have hfo := run_firstCells_some (P := P) w.drew 1 n ⟨g, 0, none⟩ n cap xs hx1 (by simpa using holds)
      have hm : m ≠ 0 := by omega
      have h48' : ¬ (281474976710656 < Builtin.nextslicecap (n + m) cap) := by
        have := growslice_fits (need := n + m) (old := cap) (bytes := 1) (by omega) (by omega)
        omega
      have h63' : ¬ (9223372036854775807 < ((n : Int) + (m : Int))) := by omega
      have hge := grownCap_ge w (n + m) cap e
      have hcm' : grownCap w (n + m) cap e ≤ maxLen := grownCap_le_maxLen w (n + m) cap e hm63
      have hr : (Builtin.append_ #[t, u] ty #[.slice (some ⟨g, 0, none⟩) n cap, .int .i64 m]).run P w =
          .ok (.slice (some ⟨w.heap.size, 0, none⟩) (n + m) (grownCap w (n + m) cap e)) (w.drew.alloc (.cells (xs.toArray ++ (List.replicate m (Value.int .u8 0)).toArray ++ (List.replicate (grownCap w (n + m) cap e - (n + m)) (Value.int .u8 0)).toArray) e)) := by
        simp [Builtin.append_, run_underlying ht, run_underlying hu, sizeOf, typeInfo, zeroValue, hi, hz, hsize, hby, asInt, asIntOf, hw, hneg, h48i, hroom, hm, h63', h48', Value.cells, zeroes_u8, Question.forced, hfo, newRow, grownCap]
      refine ⟨_, _, hr, ⟨hlen, .inr ⟨w.heap.size, _, _, rfl, hbase, heap_alloc_new w.drew _, hge, hcm', ?_, ?_⟩⟩, ⟨rfl, rfl, rfl, by simp, fun k hk _ => heap_alloc_old w.drew _ hk⟩⟩
      · simp [hx1]
        omega
      · simp only [Array.toList_append, List.append_assoc]
        rw [← List.append_assoc, ← hlen]
        exact List.take_left
theorem wpl_append_zeros {P : Program} {w : World} {ops : Array Oper} {rest : List Oper} {o : Oper} {a : Act} {Q : Exit → Act → World → Prop} (hgd : o.guard = none) (sl x : Operand) (t u : TypeId)
    (ho : o.op = .call { callee := .builtin .append, args := #[sl, x], argTypes := #[t, u] })
    (base : Nat) (e : TypeId) (i : TypeInfo) (ik : IntKind) (ht : P.underlying t = some (.slice e)) (hu : P.underlying u = some (.int ik)) (hi : P.info? e = some i) (hz : i.zero = some (.int .u8 0)) (hsize : i.size = 1) (hby : i.bytes = 1)
    (v : Value) (n : Nat) (xs : List Value) (hs : a.eval sl = v) (hown : w.ownsRow base e 1 v n xs) (M : Int) (m : Nat) (hx : a.eval x = .int .i64 M)
    (h : ∀ v' w', w'.ownsRow base e 1 v' (n + m) (xs ++ List.replicate m (.int .u8 0)) → Below base w w' → Hid (w.grownBy w' v.ownBlock) → wpList P ops Q rest (a.put o.dst v') w')
    (hM : Hid (M = (m : Int))) (h0 : Hid (0 < n)) (h63 : Hid (n + m ≤ 140737488355328)) (hbase : Hid (base ≤ w.heap.size)) : wpList P ops Q (o :: rest) a w := by
  refine wpList_plain hgd fun K hK => ?_
  obtain ⟨v', w', hrun, h2, h3⟩ := run_append_zeros (P := P) w base t u o.type e i ik ht hu hi hz hsize hby v n xs hown m h0.out h63.out hbase.out
  rw [hM.out] at hx
  unfold Oper.wp execOp
  simp only [ho, resolve, invoke, builtin, Sem.run_bind, Sem.run_pure, Result.andThen_ok, List.map_toArray, List.map_cons, List.map_nil, hs, hx, hrun]
  exact hK _ _ (h v' w' h2 ((Below.refl _ _).grown h3 hbase.out (fun k hk => (hown.lt k hk).1)) (hid h3))
end Go.Proofs.YteahbalcielhpaaDoor
