/-
  Small plain lemmas about memory that the walks of this seat use: rows of cells, byte lists, new blocks, copies, appends.
-/
import Derived.WalkKit
import Derived.WalkSpells
import Derived.WalkLawsBesides
import Derived.Laws.CopyOwn
import Derived.Maps.AppendAt
import Derived.Deep.RegionLaw
import Derived.Lib.AppendStr
import Derived.Laws.IdiomStrings
namespace Go.Proofs.Ytogchfpecbmocaa
open Go.RowKit

theorem hid {p : Prop} (h : p) : Hid p := h
theorem le_maxLen {n : Nat} (h : n ≤ 281474976710656) : n ≤ maxLen := by unfold maxLen; omega
/-- a byte as a value -/
def bv (b : UInt8) : Value := .int .u8 (b.toNat : Int)
def bvs (bs : List UInt8) : List Value := bs.map bv
theorem bvs_len (bs : List UInt8) : (bvs bs).length = bs.length := by simp [bvs]
theorem bvs_app (a b : List UInt8) : bvs (a ++ b) = bvs a ++ bvs b := by simp [bvs]
theorem bvs_one (bs : List UInt8) : ∀ u ∈ bvs bs, u.oneCell' = true := by
  intro u hu
  simp only [bvs, List.mem_map] at hu
  obtain ⟨b, _, rfl⟩ := hu
  rfl
theorem bvs_get (bs : List UInt8) (j : Nat) (u : Value) (h : (bvs bs)[j]? = some u) : ∃ h : j < bs.length, u = .int .u8 ((bs[j].toNat : Nat) : Int) := by
  simp only [bvs, List.getElem?_map, Option.map_eq_some_iff] at h
  obtain ⟨b, hb, rfl⟩ := h
  obtain ⟨hl, rfl⟩ := List.getElem?_eq_some_iff.1 hb
  exact ⟨hl, rfl⟩
theorem add_lit (g o j : Nat) : (⟨g, o, none⟩ : Addr).add j = ⟨g, o + j, none⟩ := by unfold Addr.add; split <;> simp_all
/-- block g holds just the cells cs -/
def Row (w : World) (g : Nat) (e : TypeId) (cs : List Value) : Prop := w.heap[g]? = some (.cells cs.toArray e (0, 0))
/-- the cells xs lie from the address A on, in a block below B -/
def Rd (w : World) (B : Nat) (A : Option Addr) (xs : List Value) : Prop :=
  xs ≠ [] → ∃ g o, A = some ⟨g, o, none⟩ ∧ g < B ∧ ∀ j u, xs[j]? = some u → w.cell? ⟨g, o + j, none⟩ = some u
section
variable {w w' : World} {g B B' : Nat} {e : TypeId} {cs xs : List Value} {A : Option Addr}

theorem Row.lt (h : Row w g e cs) : g < w.heap.size := (Array.getElem?_eq_some_iff.1 h).1
theorem Row.cell (h : Row w g e cs) (i : Nat) : w.cell? ⟨g, i, none⟩ = cs[i]? := by
  rw [cell_of_row w g i cs.toArray e (0, 0) h]; simp
theorem Row.frozen (h : Row w g e cs) (i : Nat) : w.frozen? ⟨g, i, none⟩ = false := frozen_of_row w g i cs.toArray e h
theorem Row.below (h : Row w g e cs) (hb : Below B w w') (hg : g < B) : Row w' g e cs := (hb.block g hg).trans h
theorem Row.drew (h : Row w g e cs) : Row w.drew g e cs := h
theorem Row.alloc (h : Row w g e cs) (o : Obj) : Row (w.alloc o) g e cs := (Below.heap_alloc w o g h.lt).trans h
theorem Row.new (w : World) (e : TypeId) (cs : Array Value) : Row (w.alloc (.cells cs e)) w.heap.size e cs.toList := by
  show _ = _
  rw [heap_alloc_new]
theorem Row.set_ (h : Row w g e cs) (i : Nat) (u : Value) : Row (w.setCell ⟨g, i, none⟩ u) g e (cs.set i u) := by
  have := heap_setCell_same w g i cs.toArray e u h
  simpa [Row] using this
theorem Row.far (h : Row w g e cs) {p : Addr} (hp : g ≠ p.block) (u : Value) : Row (w.setCell p u) g e cs := (heap_setCell_other w p g u hp).trans h
theorem Row.grown {row : Option Nat} (h : Row w g e cs) (hb : w.grownBy w' row) (hg : some g ≠ row) : Row w' g e cs := (hb.block g h.lt hg).trans h
theorem Row.own (h : Row w g e cs) (hB : B ≤ g) (hm : cs.length ≤ maxLen) : w.ownsRow B e 1 (.slice (some ⟨g, 0, none⟩) cs.length cs.length) cs.length cs :=
  ⟨by simp, .inr ⟨g, cs.length, cs.toArray, rfl, hB, h, Nat.le_refl _, hm, by simp, by simp⟩⟩
theorem Row.rd (h : Row w g e cs) (hB : g < B) : Rd w B (some ⟨g, 0, none⟩) cs := fun _ =>
  ⟨g, 0, rfl, hB, fun j u hu => by rw [h.cell]; simpa using hu⟩
theorem Row.rdCut (h : Row w g e cs) (hB : g < B) (o n : Nat) : Rd w B (some ⟨g, o, none⟩) ((cs.drop o).take n) := fun _ =>
  ⟨g, o, rfl, hB, fun j u hu => by
    rw [h.cell]
    rw [List.getElem?_take] at hu
    split at hu
    · simpa using hu
    · cases hu⟩
theorem Rd.nil : Rd w B A [] := fun h => absurd rfl h
theorem Rd.at_ (h : Rd w B A xs) {j : Nat} (hj : j < xs.length) : ∃ g o, A = some ⟨g, o, none⟩ ∧ g < B ∧ w.cell? ⟨g, o + j, none⟩ = some xs[j] := by
  obtain ⟨g, o, e, hB, hc⟩ := h (by intro e; subst e; simp at hj)
  exact ⟨g, o, e, hB, hc j _ (List.getElem?_eq_getElem hj)⟩
theorem Rd.below (h : Rd w B A xs) (hb : Below B' w w') (hB : B ≤ B') : Rd w' B A xs := fun hn => by
  obtain ⟨g, o, e, hg, hc⟩ := h hn
  exact ⟨g, o, e, hg, fun j u hu => (hb.cell (p := ⟨g, o + j, none⟩) (by show g < B'; omega)).trans (hc j u hu)⟩
theorem Rd.more (h : Rd w B A xs) (hB : B ≤ B') : Rd w B' A xs := fun hn => by
  obtain ⟨g, o, e, hg, hc⟩ := h hn
  exact ⟨g, o, e, by omega, hc⟩
theorem Rd.drew (h : Rd w B A xs) : Rd w.drew B A xs := h
theorem Rd.take (h : Rd w B A xs) (n : Nat) : Rd w B A (xs.take n) := fun hn => by
  obtain ⟨g, o, e, hg, hc⟩ := h (by intro e; subst e; simp at hn)
  refine ⟨g, o, e, hg, fun j u hu => hc j u ?_⟩
  rw [List.getElem?_take] at hu
  split at hu
  · exact hu
  · cases hu
/-- a cut behind k, as the model lays it -/
theorem Rd.cut (h : Rd w B A xs) {k cap : Nat} (hk : k ≤ xs.length) (hc : xs.length ≤ cap) :
    Rd w B (if cap = k then A else A.map (·.add k)) (xs.drop k) := fun hn => by
  have hkl : k < xs.length := by
    rcases Nat.lt_or_ge k xs.length with h | h
    · exact h
    · exact absurd (List.drop_eq_nil_of_le h) hn
  obtain ⟨g, o, rfl, hg, hcell⟩ := h (by intro e; subst e; simp at hkl)
  rw [if_neg (by omega)]
  refine ⟨g, o + k, by simp [add_lit], hg, fun j u hu => ?_⟩
  have := hcell (k + j) u (by rw [← hu, List.getElem?_drop])
  rw [← this, Nat.add_assoc]
theorem Rd.of_own {c : Nat} (h : w.ownsRow B' e 1 (.slice A xs.length c) xs.length xs) : Rd w w.heap.size A xs := fun hn => by
  rcases h.2 with ⟨hv, h0⟩ | ⟨g, cap, cur, hv, hb, hh, h1, h2, h3, h4⟩
  · exact absurd (List.eq_nil_of_length_eq_zero h0) hn
  · simp only [Value.slice.injEq, true_and] at hv
    obtain ⟨rfl, rfl⟩ := hv
    refine ⟨g, 0, rfl, (Array.getElem?_eq_some_iff.1 hh).1, fun j u hu => ?_⟩
    rw [cell_of_row w g _ cur e (0, 0) hh]
    rw [← h4, List.getElem?_take] at hu
    split at hu
    · simpa using hu
    · cases hu
end

/-- make([]T, n) of one-cell elements -/
theorem wpl_make {P : Program} {w : World} {ops : Array Oper} {rest : List Oper} {o : Oper} {a : Act} {Q : Exit → Act → World → Prop}
    (hg : o.guard = none) (l c : Operand) (t : TypeId) (hop : o.op = Op.makeSlice t l c)
    (e : TypeId) (i : TypeInfo) (z : Value) (h1 : P.underlying t = some (.slice e)) (h2 : P.info? e = some i) (h3 : i.zero = some z) (h4 : i.size = 1) (hz : z.cells = #[z])
    (kl kc : IntKind) (L C : Int) (n : Nat) (hl : a.eval l = .int kl L) (hc : a.eval c = .int kc C)
    (hK : ∀ g w', Hid (g = w.heap.size) → Row w' g e (List.replicate n z) → Below g w w' → wpList P ops Q rest (a.put o.dst (.slice (some ⟨g, 0, none⟩) n n)) w')
    (hL : Hid (L = (n : Int))) (hC : Hid (C = (n : Int))) (b2 : Hid (i.bytes * n ≤ 281474976710656)) (b3 : Hid (n ≤ maxLen)) :
    wpList P ops Q (o :: rest) a w := by
  refine wpList_make_full w hg l c t hop w.heap.size e i z 1 h1 h2 h3 h4 kl kc L C n hl hc hL.out hC.out b2.out b3.out (Nat.le_refl _) fun w' hown hgr => hK _ w' (hid rfl) ?_ ((Below.refl _ _).grown hgr (Nat.le_refl _) (by intro k hk; cases hk))
  rcases hown.2 with ⟨hv, _⟩ | ⟨g, cap, cur, hv, _, hh, _, _, h5, h6⟩
  · simp at hv
  · simp only [Value.slice.injEq, Option.some.injEq, Addr.mk.injEq, true_and, and_true] at hv
    obtain ⟨rfl, rfl⟩ := hv
    have : cur = (List.replicate n z).toArray := by
      apply Array.toList_inj.1
      have h7 : cur.toList.take (n * 1) = cur.toList := List.take_of_length_le (by simp only [Array.length_toList]; omega)
      rw [← h7, h6, hz, toList_madeCells_one]
      simp
    subst this
    exact hh
theorem grownBy_setRow (w : World) (g : Nat) (cs : Array Value) : w.grownBy (w.setRow g cs) (some g) :=
  ⟨rfl, rfl, rfl, by simp [World.setRow], fun k _ hk => setRow_other w g k cs (fun e => hk (by simp [e]))⟩
theorem below_grown {B : Nat} {w w' : World} {g : Nat} (hg : w.grownBy w' (some g)) (hB : B ≤ g) (hs : B ≤ w.heap.size) : Below B w w' :=
  (Below.refl _ _).grown hg hs (by intro k hk; cases hk; exact hB)
/-- copy(dst, src), dst in a row that is known whole, src whatever reads as cs or more -/
theorem wpo_copy {P : Program} {w : World} {o : Oper} {a : Act} {K : Act → World → Prop} {Q : Exit → Act → World → Prop} (d s : Operand) (dT sT : TypeId)
    (ho : o.op = .call { callee := .builtin .copy, args := #[d, s], argTypes := #[dT, sT] }) (elem : TypeId) (hu : P.underlying dT = some (.slice elem)) (hsz : (P.info? elem).map (·.size) = some 1)
    (dp sp : Option Addr) (dLen dCap sLen sCap : Nat) (hd : a.eval d = .slice dp dLen dCap) (hs : a.eval s = .slice sp sLen sCap)
    (g off : Nat) (cur : List Value) (t : TypeId) (hg : Row w g t cur) (B : Nat) (cs : List Value)
    (h : ∀ w', Row w' g t (splice cur off cs) → w.grownBy w' (some g) → K (a.put o.dst (goInt cs.length)) w')
    (hrd : Hid (Rd w B sp cs)) (hn : Hid (cs.length = Nat.min sLen dLen)) (hpos : Hid (0 < cs.length → dp = some ⟨g, off, none⟩))
    (hfit : Hid (off + cs.length ≤ cur.length)) (h1 : Hid (∀ v ∈ cs, v.oneCell' = true)) : o.wp P a w K Q := by
  by_cases h0 : cs.length = 0
  · obtain rfl : cs = [] := List.eq_nil_of_length_eq_zero h0
    have hrun := run_copy_none (P := P) w dT sT o.type elem dp sp dLen dCap sLen sCap hu hsz (by simpa using hn.out.symm)
    unfold Oper.wp
    simp [execOp, ho, resolve, invoke, builtin, hd, hs, hrun, Result.andThen]
    exact h w (by simpa [splice] using hg) (World.grownBy.refl w _)
  · obtain rfl := hpos.out (by omega)
    obtain ⟨sg, so, rfl, _, hsrc⟩ := hrd.out (by intro e; subst e; simp at h0)
    have hrun := run_copy_row (P := P) w dT sT o.type elem g off dLen dCap ⟨sg, so, none⟩ sLen sCap cur.toArray t cs hu hsz hg hn.out (fun j v hv => by rw [add_lit]; exact hsrc j v hv) (by simpa using hfit.out) h1.out
    unfold Oper.wp
    simp [execOp, ho, resolve, invoke, builtin, hd, hs, hrun, Result.andThen]
    exact h _ (by simpa [splice, Row] using setRow_heap w g _ _ t _ hg) (grownBy_setRow w g _)
theorem wpl_copy {P : Program} {w : World} {ops : Array Oper} {rest : List Oper} {o : Oper} {a : Act} {Q : Exit → Act → World → Prop} (hgd : o.guard = none) (d s : Operand) (dT sT : TypeId)
    (ho : o.op = .call { callee := .builtin .copy, args := #[d, s], argTypes := #[dT, sT] }) (elem : TypeId) (hu : P.underlying dT = some (.slice elem)) (hsz : (P.info? elem).map (·.size) = some 1)
    (dp sp : Option Addr) (dLen dCap sLen sCap : Nat) (hd : a.eval d = .slice dp dLen dCap) (hs : a.eval s = .slice sp sLen sCap)
    (g off : Nat) (cur : List Value) (t : TypeId) (hg : Row w g t cur) (B : Nat) (cs : List Value)
    (h : ∀ w', Row w' g t (splice cur off cs) → w.grownBy w' (some g) → wpList P ops Q rest (a.put o.dst (goInt cs.length)) w')
    (hrd : Hid (Rd w B sp cs)) (hn : Hid (cs.length = Nat.min sLen dLen)) (hpos : Hid (0 < cs.length → dp = some ⟨g, off, none⟩))
    (hfit : Hid (off + cs.length ≤ cur.length)) (h1 : Hid (∀ v ∈ cs, v.oneCell' = true)) : wpList P ops Q (o :: rest) a w :=
  wpList_plain hgd fun _ hK => wpo_copy d s dT sT ho elem hu hsz dp sp dLen dCap sLen sCap hd hs g off cur t hg B cs (fun w' h2 h3 => hK _ _ (h w' h2 h3)) hrd hn hpos hfit h1
theorem step_of_wpo {P : Program} {ops : Array Oper} {o : Oper} {a : Act} {w : World} {K : Act → World → Prop} {Q : Exit → Act → World → Prop} {E : Prop} (hgd : o.guard = none)
    (h : o.wp P a w K Q) : if Region.wanted o (yielded ops a.tmps) = true then Oper.wp P o a w K Q else E := by
  have hw : Region.wanted o (yielded ops a.tmps) = true := by simp [Region.wanted, hgd]
  rw [if_pos hw]
  exact h
/-- string(b) -/
theorem run_str {P : Program} (w : World) (src e : TypeId) (hs : P.underlying src = some (.slice e)) (he : P.underlying e = some (.int .u8)) (dst : TypeId) (hd : P.underlying dst = some .string)
    (B : Nat) (A : Option Addr) (bs : List UInt8) (l c : Nat) (hl : l = bs.length) (hr : Rd w B A (bvs bs)) :
    (convert src dst (.slice A l c)).run P w = .ok (.string ⟨bs.toArray⟩) w := by
  subst hl
  rw [run_convert_bytes_string w src dst e _ _ c hs he hd]
  rcases A with _ | a
  · have : bs = [] := by
      rcases bs with _ | ⟨b, r⟩
      · rfl
      · obtain ⟨g, o, h, _⟩ := hr (by simp [bvs])
        cases h
    subst this
    simp [Conv.bytesToString]
    rfl
  · have hx : (loadCells a (bs.map fun b => (b.toNat : Int)).length).run P w = .ok ((bs.map fun b => (b.toNat : Int)).map (Value.int .u8)).toArray w := by
      have := run_loadCells_list (P := P) w a (bvs bs) (fun j v hj => by
        obtain ⟨g, o, h, _, hc⟩ := hr (by intro e; rw [e] at hj; simp at hj)
        cases h
        rw [add_lit]
        exact hc j v hj)
      simp only [bvs_len] at this
      simp only [List.length_map, List.map_map]
      exact this
    have hb := run_bytesToString (P := P) w a bs.length c (bs.map fun b => (b.toNat : Int)) (by rw [List.length_map] at hx; exact hx)
    rw [hb, foldl_push_bytes]
    have h3 : ((bs.map fun b => (b.toNat : Int)).map fun n => UInt8.ofNat n.toNat) = bs := by
      rw [List.map_map]
      conv => rhs; rw [← List.map_id bs]
      apply List.map_congr_left
      intro b _
      simp
    rw [h3]
    simp [ByteArray.empty, ByteArray.emptyWithCapacity]
    rfl
/-- append(out, xs...), out a row of the call's own, xs whatever reads as news -/
theorem wpo_append {P : Program} {w : World} {o : Oper} {a : Act} {K : Act → World → Prop} {Q : Exit → Act → World → Prop} (s x : Operand) (t : TypeId)
    (ho : o.op = .call { callee := .builtin .append, args := #[s, x], argTypes := #[t, t] })
    (base : Nat) (e : TypeId) (i : TypeInfo) (z : Value) (size bytes : Nat) (ht : P.underlying t = some (.slice e)) (hi : P.info? e = some i) (hz : i.zero = some z)
    (hsize : i.size = size) (hby : i.bytes = bytes) (hzs : z.cells.size = size) (hsz : 0 < size)
    (v : Value) (n : Nat) (xs : List Value) (hs : a.eval s = v) (hown : w.ownsRow base e size v n xs)
    (B : Nat) (A : Option Addr) (m c : Nat) (news : List Value) (hx : a.eval x = .slice A m c)
    (h : ∀ v' w', w'.ownsRow base e size v' (n + m) (xs ++ news) → Below base w w' → Hid (w.grownBy w' v.ownBlock) → K (a.put o.dst v') w')
    (hr : Hid (Rd w B A news)) (hl : Hid (news.length = m * size)) (h1 : Hid (∀ u ∈ news, u.oneCell' = true))
    (h63 : Hid (n + m ≤ maxLen)) (hbytes : Hid ((n + m) * bytes ≤ 140737488355328)) (hbase : Hid (base ≤ w.heap.size)) : o.wp P a w K Q := by
  have key : ∃ v' w', (Builtin.append_ #[t, t] o.type #[v, .slice A m c]).run P w = .ok v' w' ∧ w'.ownsRow base e size v' (n + m) (xs ++ news) ∧ w.grownBy w' v.ownBlock := by
    rcases A with _ | ad
    · have hn : news = [] := by
        rcases news with _ | ⟨b, r⟩
        · rfl
        · obtain ⟨g, o, h, _⟩ := hr.out (by simp)
          cases h
      subst hn
      have hm : m = 0 := by
        have := hl.out
        rcases Nat.eq_zero_or_pos m with h0 | h0
        · exact h0
        · have := Nat.mul_pos h0 hsz
          simp_all
      subst hm
      refine ⟨v, w, ?_, by simpa using hown, World.grownBy.refl w _⟩
      rcases hown.2 with ⟨rfl, rfl⟩ | ⟨g, cap, cur, rfl, _, _, hnc, _⟩
      · simp [Builtin.append_, run_underlying ht, sizeOf, typeInfo, hi, Builtin.lenOf, Builtin.firstCells]
      · simp [Builtin.append_, run_underlying ht, sizeOf, typeInfo, hi, Builtin.lenOf, Builtin.firstCells, hnc, storeCells]
    · by_cases hne : news = []
      · subst hne
        obtain ⟨v', w', hrun, h2, h3, _⟩ := run_append_own_at (P := P) w base t o.type e i z size bytes ht hi hz hsize hby hzs hsz v n xs hown ad m c [] hl.out (by intro j u hu; simp at hu) h1.out h63.out hbytes.out hbase.out
        exact ⟨v', w', hrun, h2, h3⟩
      · obtain ⟨g, so, h, _, hc⟩ := hr.out hne
        cases h
        obtain ⟨v', w', hrun, h2, h3, _⟩ := run_append_own_at (P := P) w base t o.type e i z size bytes ht hi hz hsize hby hzs hsz v n xs hown ⟨g, so, none⟩ m c news hl.out (by intro j u hu; rw [add_lit]; exact hc j u hu) h1.out h63.out hbytes.out hbase.out
        exact ⟨v', w', hrun, h2, h3⟩
  obtain ⟨v', w', hrun, h2, h3⟩ := key
  unfold Oper.wp execOp
  simp only [ho, resolve, invoke, builtin, Sem.run_bind, Sem.run_pure, Result.andThen_ok, List.map_toArray, List.map_cons, List.map_nil, hs, hx, hrun]
  exact h v' w' h2 ((Below.refl _ _).grown h3 hbase.out (fun k hk => (hown.lt k hk).1)) (hid h3)
theorem wpl_append {P : Program} {w : World} {ops : Array Oper} {rest : List Oper} {o : Oper} {a : Act} {Q : Exit → Act → World → Prop} (hgd : o.guard = none) (s x : Operand) (t : TypeId)
    (ho : o.op = .call { callee := .builtin .append, args := #[s, x], argTypes := #[t, t] })
    (base : Nat) (e : TypeId) (i : TypeInfo) (z : Value) (size bytes : Nat) (ht : P.underlying t = some (.slice e)) (hi : P.info? e = some i) (hz : i.zero = some z)
    (hsize : i.size = size) (hby : i.bytes = bytes) (hzs : z.cells.size = size) (hsz : 0 < size)
    (v : Value) (n : Nat) (xs : List Value) (hs : a.eval s = v) (hown : w.ownsRow base e size v n xs)
    (B : Nat) (A : Option Addr) (m c : Nat) (news : List Value) (hx : a.eval x = .slice A m c)
    (h : ∀ v' w', w'.ownsRow base e size v' (n + m) (xs ++ news) → Below base w w' → Hid (w.grownBy w' v.ownBlock) → wpList P ops Q rest (a.put o.dst v') w')
    (hr : Hid (Rd w B A news)) (hl : Hid (news.length = m * size)) (h1 : Hid (∀ u ∈ news, u.oneCell' = true))
    (h63 : Hid (n + m ≤ maxLen)) (hbytes : Hid ((n + m) * bytes ≤ 140737488355328)) (hbase : Hid (base ≤ w.heap.size)) : wpList P ops Q (o :: rest) a w :=
  wpList_plain hgd fun _ hK => wpo_append s x t ho base e i z size bytes ht hi hz hsize hby hzs hsz v n xs hs hown B A m c news hx (fun v' w' a b c => hK _ _ (h v' w' a b c)) hr hl h1 h63 hbytes hbase
/-- arr[i] of an array by value, its elements of one cell -/
theorem run_index_arr {P : Program} (w : World) (t e n : Nat) (cs : Array Value) (k : IntKind) (i : Nat) (v : Value) (ik : IntKind) (h : P.underlying t = some (.array n e)) (he : P.underlying e = some (.int ik))
    (hs : (P.info? e).map (·.size) = some 1) (hi : i < n) (hv : cs[i]? = some v) : (Instr.index t (.agg cs) (.int k i)).run P w = .ok v w := by
  obtain ⟨j, hj, hjs⟩ := Option.map_eq_some_iff.1 hs
  have h1 : (0 : Int) ≤ i ∧ (i : Int) < (n : Int) := by omega
  simp [Instr.index, run_underlying h, asIntOf, sizeOf, typeInfo, hj, hjs, part, isAgg, run_underlying he, hi, hv]
/-- a string's bytes -/
def sb (s : ByteArray) : List UInt8 := s.data.toList
theorem sb_len (s : ByteArray) : (sb s).length = s.size := by rw [sb, Array.length_toList]; rfl
theorem sb_cells (s : ByteArray) : Lib.strCells s = bvs (sb s) := rfl
theorem sb_mk (bs : List UInt8) : sb ⟨bs.toArray⟩ = bs := by simp [sb]
theorem mk_sb (s : ByteArray) : (⟨(sb s).toArray⟩ : ByteArray) = s := by simp [sb]
/-- append(out, s...), out a row of the call's own, s a string -/
theorem wpl_append_str {P : Program} {w : World} {ops : Array Oper} {rest : List Oper} {o : Oper} {a : Act} {Q : Exit → Act → World → Prop} (hgd : o.guard = none) (sl x : Operand) (t u : TypeId)
    (ho : o.op = .call { callee := .builtin .append, args := #[sl, x], argTypes := #[t, u] })
    (base : Nat) (e : TypeId) (i : TypeInfo) (ht : P.underlying t = some (.slice e)) (hu : P.underlying u = some .string) (hi : P.info? e = some i) (hz : i.zero = some (.int .u8 0)) (hsize : i.size = 1) (hby : i.bytes = 1)
    (v : Value) (n : Nat) (xs : List Value) (hs : a.eval sl = v) (hown : w.ownsRow base e 1 v n xs) (s : ByteArray) (hx : a.eval x = .string s)
    (h : ∀ v' w', w'.ownsRow base e 1 v' (n + s.size) (xs ++ bvs (sb s)) → Below base w w' → Hid (w.grownBy w' v.ownBlock) → wpList P ops Q rest (a.put o.dst v') w')
    (h63 : Hid (n + s.size ≤ maxLen)) (hbytes : Hid (n + s.size ≤ 140737488355328)) (hbase : Hid (base ≤ w.heap.size)) : wpList P ops Q (o :: rest) a w := by
  refine wpList_plain hgd fun K hK => ?_
  obtain ⟨v', w', hrun, h2, h3, _⟩ := Lib.run_append_own_string (P := P) w base t u o.type e i ht hu hi hz hsize hby v n xs hown s h63.out hbytes.out hbase.out
  unfold Oper.wp execOp
  simp only [ho, resolve, invoke, builtin, Sem.run_bind, Sem.run_pure, Result.andThen_ok, List.map_toArray, List.map_cons, List.map_nil, hs, hx, hrun]
  exact hK _ _ (h v' w' h2 ((Below.refl _ _).grown h3 hbase.out (fun k hk => (hown.lt k hk).1)) (hid h3))
/-- string(b), as a step of the walk -/
theorem wpl_str {P : Program} {w : World} {ops : Array Oper} {rest : List Oper} {o : Oper} {a : Act} {Q : Exit → Act → World → Prop} (hgd : o.guard = none) (x : Operand) (src dst : TypeId)
    (ho : o.op = .convert src dst x) (e : TypeId) (hs : P.underlying src = some (.slice e)) (he : P.underlying e = some (.int .u8)) (hd : P.underlying dst = some .string)
    (A : Option Addr) (l c : Nat) (hx : a.eval x = .slice A l c) (B : Nat) (bs : List UInt8)
    (h : wpList P ops Q rest (a.put o.dst (.string ⟨bs.toArray⟩)) w)
    (hr : Hid (Rd w B A (bvs bs))) (hl : Hid (l = bs.length)) : wpList P ops Q (o :: rest) a w := by
  refine wpList_plain hgd fun K hK => ?_
  unfold Oper.wp execOp
  simp only [ho, Sem.run_bind, Sem.run_pure, Result.andThen_ok, hx, run_str w src e hs he dst hd B A bs l c hl.out hr.out]
  exact hK _ _ h
end Go.Proofs.Ytogchfpecbmocaa
/-
  More plain lemmas about memory: the new bytes of a text, which bear the run-time's mark behind their last cell.
-/
namespace Go.Proofs.Ytogchfpecbmocaa
open Go.RowKit

/-- block g holds just the cells cs, and the mark stands behind them -/
def FRow (w : World) (g : Nat) (e : TypeId) (cs : List Value) : Prop := w.heap[g]? = some (.cells cs.toArray e (cs.length, cs.length + 1))
section
variable {w w' : World} {g B : Nat} {e : TypeId} {cs : List Value}
theorem FRow.lt (h : FRow w g e cs) : g < w.heap.size := (Array.getElem?_eq_some_iff.1 h).1
theorem FRow.cell (h : FRow w g e cs) (i : Nat) : w.cell? ⟨g, i, none⟩ = cs[i]? := by
  rw [cell_of_row w g i cs.toArray e _ h]; simp
theorem FRow.frozen (h : FRow w g e cs) (i : Nat) (hi : i < cs.length) : w.frozen? ⟨g, i, none⟩ = false := by
  unfold FRow at h
  simp [World.frozen?, h]
  omega
theorem FRow.below (h : FRow w g e cs) (hb : Below B w w') (hg : g < B) : FRow w' g e cs := (hb.block g hg).trans h
theorem FRow.alloc (h : FRow w g e cs) (o : Obj) : FRow (w.alloc o) g e cs := (Below.heap_alloc w o g h.lt).trans h
theorem FRow.far (h : FRow w g e cs) {p : Addr} (hp : g ≠ p.block) (u : Value) : FRow (w.setCell p u) g e cs := (heap_setCell_other w p g u hp).trans h
theorem FRow.set_ (h : FRow w g e cs) (i : Nat) (u : Value) : FRow (w.setCell ⟨g, i, none⟩ u) g e (cs.set i u) := by
  unfold FRow at h ⊢
  simp [World.setCell, Array.getElem?_modify, h]
theorem FRow.rd (h : FRow w g e cs) (hB : g < B) : Rd w B (some ⟨g, 0, none⟩) cs := fun _ =>
  ⟨g, 0, rfl, hB, fun j u hu => by rw [h.cell]; simpa using hu⟩
end

/-- []byte(s), as a step of the walk -/
theorem wpl_bytes {P : Program} {w : World} {ops : Array Oper} {rest : List Oper} {o : Oper} {a : Act} {Q : Exit → Act → World → Prop} (hgd : o.guard = none) (x : Operand) (src dst : TypeId)
    (ho : o.op = .convert src dst x) (e : TypeId) (hs : P.underlying src = some .string) (hd : P.underlying dst = some (.slice e)) (he : P.underlying e = some (.int .u8))
    (s : ByteArray) (hx : a.eval x = .string s)
    (h : ∀ g c k w', Hid (g = w.heap.size) → Hid (s.size ≤ c) → FRow w' g e (bvs (sb s) ++ List.replicate k (.int .u8 0)) → Below w.heap.size w w' →
      wpList P ops Q rest (a.put o.dst (.slice (some ⟨g, 0, none⟩) s.size c)) w') : wpList P ops Q (o :: rest) a w := by
  refine wpList_plain hgd fun K hK => ?_
  have hrow : bytesRow s (grownCap w s.size 0 e) = (bvs (sb s) ++ List.replicate (grownCap w s.size 0 e - s.size) (Value.int .u8 0)).toArray := by
    apply Array.toList_inj.1
    simp [bytesRow, bvs, sb]
    intro b _
    rfl
  have hlen : (bytesRow s (grownCap w s.size 0 e)).size = (bvs (sb s) ++ List.replicate (grownCap w s.size 0 e - s.size) (Value.int .u8 0)).length := by rw [hrow]; simp
  unfold Oper.wp execOp
  simp only [ho, Sem.run_bind, Sem.run_pure, Result.andThen_ok, hx, run_bytes_of_string w src dst e s hs hd he]
  refine hK _ _ (h w.heap.size _ (grownCap w s.size 0 e - s.size) _ (hid rfl) (hid (grownCap_ge w s.size 0 e)) ?_ ((Below.refl _ _).drew.alloc (Nat.le_refl _) _))
  unfold FRow
  rw [hlen, hrow]
  exact heap_alloc_new _ _
end Go.Proofs.Ytogchfpecbmocaa
/-
  append(b, make([]byte, n)...) of a row of the call's own: the same bytes, and n noughts behind them.
-/
namespace Go.Proofs.Ytogchfpecbmocaa
open Go.RowKit

theorem zeroes_u8 (n : Nat) : Builtin.zeroCells #[Value.int .u8 0] n = (List.replicate n (Value.int .u8 0)).toArray := by
  apply Array.ext
  · simp [Builtin.zeroCells]
  · intro i h1 h2
    simp [Builtin.zeroCells, Nat.mod_one]
theorem run_append_zeros {P : Program} (w : World) (base : Nat) (t u ty e : TypeId) (i : TypeInfo) (ik : IntKind) (ht : P.underlying t = some (.slice e)) (hu : P.underlying u = some (.int ik)) (hi : P.info? e = some i) (hz : i.zero = some (.int .u8 0))
    (hsize : i.size = 1) (hby : i.bytes = 1) (v : Value) (n : Nat) (xs : List Value) (hown : w.ownsRow base e 1 v n xs) (m : Nat) (h0 : 0 < n) (h63 : n + m ≤ 140737488355328) (hbase : base ≤ w.heap.size) :
    ∃ v' w', (Builtin.append_ #[t, u] ty #[v, .int .i64 m]).run P w = .ok v' w' ∧ w'.ownsRow base e 1 v' (n + m) (xs ++ List.replicate m (.int .u8 0)) ∧ w.grownBy w' v.ownBlock := by
  have hw : IntKind.i64.wrap (m : Int) = m := by rw [IntKind.wrap_i64]; omega
  have hm63 : n + m ≤ maxLen := by simp only [maxLen]; omega
  have hlen : (xs ++ List.replicate m (Value.int .u8 0)).length = (n + m) * 1 := by rw [List.length_append, hown.1]; simp
  have hneg : ¬ ((m : Int) < 0) := by omega
  have h48i : ¬ (281474976710656 < (m : Int)) := by omega
  have hone : ∀ u ∈ List.replicate m (Value.int .u8 0), u.oneCell' = true := by
    intro u hu
    rw [(List.mem_replicate.1 hu).2]
    rfl
  rcases hown.2 with ⟨rfl, h⟩ | ⟨g, cap, cur, rfl, hbg, hg, hnc, hcm, hcs, htake⟩
  · omega
  · have hx1 := hown.1
    by_cases hroom : n + m ≤ cap
    · have hst := run_storeCells_at P g (n * 1) e (List.replicate m (Value.int .u8 0)) 0 cur w hg (by simp; omega) hone
      simp only [Nat.add_zero] at hst
      have hr : (Builtin.append_ #[t, u] ty #[.slice (some ⟨g, 0, none⟩) n cap, .int .i64 m]).run P w = .ok (.slice (some ⟨g, 0, none⟩) (n + m) cap) (w.setRow g (cur.toList.take (n * 1) ++ List.replicate m (Value.int .u8 0) ++ cur.toList.drop (n * 1 + (List.replicate m (Value.int .u8 0)).length)).toArray) := by
        by_cases hm : m = 0
        · subst hm
          have he : (List.take n cur.toList ++ List.drop n cur.toList).toArray = cur := by simp
          have hsr : w.setRow g cur = w := by
            have := setRow_heap w g cur cur e (0, 0) hg
            unfold World.setRow
            congr 1
            apply Array.ext
            · simp
            · intro j h1 h2
              by_cases hj : j = g
              · subst hj
                have h3 := (Array.getElem?_eq_some_iff.1 hg).2
                simp [Array.getElem_modify, h3]
              · simp [Array.getElem_modify, Ne.symm hj]
          simp [Builtin.append_, run_underlying ht, run_underlying hu, sizeOf, typeInfo, hi, hby, asInt, asIntOf, show IntKind.i64.wrap 0 = 0 from rfl, hnc, storeCells, hsr]
        · simp [Builtin.append_, run_underlying ht, run_underlying hu, sizeOf, typeInfo, zeroValue, hi, hz, hsize, hby, asInt, asIntOf, hw, hneg, h48i, hroom, hm, Value.cells, zeroes_u8, Addr.add_lit] at hst ⊢
          simp [hst]
      refine ⟨_, _, hr, ⟨hlen, .inr ⟨g, cap, _, rfl, hbg, setRow_heap w g cur _ e _ hg, hroom, hcm, ?_, ?_⟩⟩, ⟨rfl, rfl, rfl, by simp, fun k _ hk => setRow_other w g k _ (fun e => hk (by simp [Value.ownBlock, e]))⟩⟩
      · simp
        omega
      · rw [htake, ← hlen]
        exact List.take_left
    · have holds : ∀ j u, xs[j]? = some u → w.cell? ((⟨g, 0, none⟩ : Addr).add j) = some u := hown.cells (g := g) rfl
      have hfo := run_firstCells_some (P := P) w.drew 1 n ⟨g, 0, none⟩ n cap xs hx1 (by simpa using holds)
      have hm : m ≠ 0 := by omega
      have h48' : ¬ (281474976710656 < Builtin.nextslicecap (n + m) cap) := by
        have := growslice_fits (need := n + m) (old := cap) (bytes := 1) (by omega) (by omega)
        omega
      have h63' : ¬ (9223372036854775807 < ((n : Int) + (m : Int))) := by omega
      have hge := grownCap_ge w (n + m) cap e
      have hcm' : grownCap w (n + m) cap e ≤ maxLen := grownCap_le_maxLen w (n + m) cap e hm63
      have hr : (Builtin.append_ #[t, u] ty #[.slice (some ⟨g, 0, none⟩) n cap, .int .i64 m]).run P w =
          .ok (.slice (some ⟨w.heap.size, 0, none⟩) (n + m) (grownCap w (n + m) cap e)) (w.drew.alloc (.cells (xs.toArray ++ (List.replicate m (Value.int .u8 0)).toArray ++ (List.replicate (grownCap w (n + m) cap e - (n + m)) (Value.int .u8 0)).toArray) e)) := by
        simp [Builtin.append_, run_underlying ht, run_underlying hu, sizeOf, typeInfo, zeroValue, hi, hz, hsize, hby, asInt, asIntOf, hw, hneg, h48i, hroom, hm, h63', h48', Value.cells, zeroes_u8, Question.forced, hfo, newRow, grownCap]
      refine ⟨_, _, hr, ⟨hlen, .inr ⟨w.heap.size, _, _, rfl, hbase, heap_alloc_new w.drew _, hge, hcm', ?_, ?_⟩⟩, ⟨rfl, rfl, rfl, by simp, fun k hk _ => heap_alloc_old w.drew _ hk⟩⟩
      · simp [hx1]
        omega
      · simp only [Array.toList_append, List.append_assoc]
        rw [← List.append_assoc, ← hlen]
        exact List.take_left
theorem wpl_append_zeros {P : Program} {w : World} {ops : Array Oper} {rest : List Oper} {o : Oper} {a : Act} {Q : Exit → Act → World → Prop} (hgd : o.guard = none) (sl x : Operand) (t u : TypeId)
    (ho : o.op = .call { callee := .builtin .append, args := #[sl, x], argTypes := #[t, u] })
    (base : Nat) (e : TypeId) (i : TypeInfo) (ik : IntKind) (ht : P.underlying t = some (.slice e)) (hu : P.underlying u = some (.int ik)) (hi : P.info? e = some i) (hz : i.zero = some (.int .u8 0)) (hsize : i.size = 1) (hby : i.bytes = 1)
    (v : Value) (n : Nat) (xs : List Value) (hs : a.eval sl = v) (hown : w.ownsRow base e 1 v n xs) (M : Int) (m : Nat) (hx : a.eval x = .int .i64 M)
    (h : ∀ v' w', w'.ownsRow base e 1 v' (n + m) (xs ++ List.replicate m (.int .u8 0)) → Below base w w' → Hid (w.grownBy w' v.ownBlock) → wpList P ops Q rest (a.put o.dst v') w')
    (hM : Hid (M = (m : Int))) (h0 : Hid (0 < n)) (h63 : Hid (n + m ≤ 140737488355328)) (hbase : Hid (base ≤ w.heap.size)) : wpList P ops Q (o :: rest) a w := by
  refine wpList_plain hgd fun K hK => ?_
  obtain ⟨v', w', hrun, h2, h3⟩ := run_append_zeros (P := P) w base t u o.type e i ik ht hu hi hz hsize hby v n xs hown m h0.out h63.out hbase.out
  rw [hM.out] at hx
  unfold Oper.wp execOp
  simp only [ho, resolve, invoke, builtin, Sem.run_bind, Sem.run_pure, Result.andThen_ok, List.map_toArray, List.map_cons, List.map_nil, hs, hx, hrun]
  exact hK _ _ (h v' w' h2 ((Below.refl _ _).grown h3 hbase.out (fun k hk => (hown.lt k hk).1)) (hid h3))
end Go.Proofs.Ytogchfpecbmocaa
/-
  What a disk is and does, as plain functions: sectors, writes under way; rows of equal width laid end to end.
-/
namespace Go.Proofs.Ytogchfpecbmocaa
open Go.RowKit

structure Sec where
  lasts : List UInt8
  marked : Bool
structure Wr where
  place : Nat
  bytes : List UInt8
structure Sp where
  secs : List Sec
  way : List Wr
  on : Bool
  left : Nat
  count : Nat
/-- all that is there has its size -/
structure Sp.WF (S : Sp) : Prop where
  len : ∀ s ∈ S.secs, s.lasts.length = 384
  way : ∀ x ∈ S.way, x.place < S.secs.length ∧ x.bytes.length = 384
  few : S.secs.length ≤ 64
  left : S.left ≤ 9223372036854775807
  less : S.way.length ≤ S.count
/-- the place, from 1 on, of the last write of sector i; 0: there is none -/
def newest (way : List Wr) (i : Nat) : Nat := (way.foldl (fun a x => (a.1 + 1, if x.place = i then a.1 + 1 else a.2)) (0, 0)).2
/-- the bytes of the last write of sector i, or d -/
def lastw (way : List Wr) (i : Nat) (d : List UInt8) : List UInt8 := way.foldl (fun a x => if x.place = i then x.bytes else a) d
theorem newest_fst (way : List Wr) (i : Nat) : ∀ a, (way.foldl (fun a x => (a.1 + 1, if x.place = i then a.1 + 1 else a.2)) a).1 = a.1 + way.length := by
  induction way with
  | nil => intro a; simp
  | cons x r ih => intro a; rw [List.foldl_cons, ih]; simp only [List.length_cons]; omega
theorem newest_nil (i : Nat) : newest [] i = 0 := rfl
theorem newest_snoc (way : List Wr) (x : Wr) (i : Nat) : newest (way ++ [x]) i = if x.place = i then way.length + 1 else newest way i := by
  unfold newest
  rw [List.foldl_append, List.foldl_cons, List.foldl_nil]
  have := newest_fst way i (0, 0)
  simp only [Nat.zero_add] at this
  simp only [this]
theorem lastw_snoc (way : List Wr) (x : Wr) (i : Nat) (d : List UInt8) : lastw (way ++ [x]) i d = if x.place = i then x.bytes else lastw way i d := by
  unfold lastw
  rw [List.foldl_append, List.foldl_cons, List.foldl_nil]
theorem snoc_ind {α : Type} {p : List α → Prop} (h0 : p []) (h1 : ∀ l x, p l → p (l ++ [x])) : ∀ l, p l := by
  intro l
  have h : ∀ r : List α, p r.reverse := by
    intro r
    induction r with
    | nil => exact h0
    | cons x r ih => rw [List.reverse_cons]; exact h1 _ _ ih
  simpa using h l.reverse
theorem newest_le (way : List Wr) (i : Nat) : newest way i ≤ way.length := by
  refine snoc_ind (p := fun way => newest way i ≤ way.length) (by simp [newest_nil]) ?_ way
  intro l x ih
  rw [newest_snoc]
  split <;> simp <;> omega
/-- what the newest write of a sector is -/
theorem newest_get (way : List Wr) (i : Nat) (d : List UInt8) : (newest way i = 0 ∧ lastw way i d = d ∧ ∀ x ∈ way, x.place ≠ i) ∨ (∃ k, newest way i = k + 1 ∧ ∃ h : k < way.length, way[k].place = i ∧ way[k].bytes = lastw way i d) := by
  refine snoc_ind (p := fun way => (newest way i = 0 ∧ lastw way i d = d ∧ ∀ x ∈ way, x.place ≠ i) ∨ (∃ k, newest way i = k + 1 ∧ ∃ h : k < way.length, way[k].place = i ∧ way[k].bytes = lastw way i d)) (.inl ⟨rfl, rfl, by simp⟩) ?_ way
  intro l x ih
  rw [newest_snoc, lastw_snoc]
  by_cases hx : x.place = i
  · rw [if_pos hx, if_pos hx]
    exact .inr ⟨l.length, rfl, by simp, by simpa using hx, by simp⟩
  · rw [if_neg hx, if_neg hx]
    rcases ih with ⟨h1, h2, h3⟩ | ⟨k, h1, h2, h3, h4⟩
    · refine .inl ⟨h1, h2, ?_⟩
      intro y hy
      rcases List.mem_append.1 hy with hy | hy
      · exact h3 y hy
      · simp at hy; subst hy; exact hx
    · refine .inr ⟨k, h1, by simp; omega, ?_, ?_⟩
      · rw [List.getElem_append_left h2]; exact h3
      · rw [List.getElem_append_left h2]; exact h4
theorem newest_zero (way : List Wr) (i : Nat) : newest way i = 0 ↔ ∀ x ∈ way, x.place ≠ i := by
  rcases newest_get way i [] with ⟨h1, _, h3⟩ | ⟨k, h1, h2, h3, _⟩
  · exact ⟨fun _ => h3, fun _ => h1⟩
  · rw [h1]
    exact ⟨fun h => by omega, fun h => absurd h3 (h _ (List.getElem_mem h2))⟩
/-- how many bytes of a write last, by a pick -/
def keptS (pick : Int) : Nat := if pick < 0 ∨ pick % 3 = 0 then 0 else if pick % 3 = 1 then 384 else (pick / 3 % 385).toNat
theorem keptS_le (p : Int) : keptS p ≤ 384 := by unfold keptS; split <;> (try split) <;> omega
def pickOf (picks : List Int) (k : Nat) : Nat := if picks = [] then 0 else keptS (picks.getD (k % picks.length) 0)
theorem pickOf_le (picks : List Int) (k : Nat) : pickOf picks k ≤ 384 := by
  unfold pickOf
  split
  · omega
  · exact keptS_le _
/-- of a write the first c bytes last -/
def takeD (s : Sec) (b : List UInt8) (c : Nat) : Sec := ⟨b.take c ++ s.lasts.drop c, if c = 0 then s.marked else decide (c < 384)⟩
/-- the writes, in order; of the k-th F k bytes last -/
def sett (F : Nat → Nat) (way : List Wr) (secs : List Sec) : List Sec :=
  (way.foldl (fun (a : Nat × List Sec) x => (a.1 + 1, a.2.modify x.place (fun s => takeD s x.bytes (F a.1)))) (0, secs)).2
theorem sett_fst (F : Nat → Nat) (way : List Wr) : ∀ a : Nat × List Sec, (way.foldl (fun (a : Nat × List Sec) x => (a.1 + 1, a.2.modify x.place (fun s => takeD s x.bytes (F a.1)))) a).1 = a.1 + way.length := by
  induction way with
  | nil => intro a; simp
  | cons x r ih => intro a; rw [List.foldl_cons, ih]; simp only [List.length_cons]; omega
theorem sett_nil (F : Nat → Nat) (secs : List Sec) : sett F [] secs = secs := rfl
theorem sett_snoc (F : Nat → Nat) (way : List Wr) (x : Wr) (secs : List Sec) : sett F (way ++ [x]) secs = (sett F way secs).modify x.place (fun s => takeD s x.bytes (F way.length)) := by
  unfold sett
  rw [List.foldl_append, List.foldl_cons, List.foldl_nil]
  have := sett_fst F way (0, secs)
  simp only [Nat.zero_add] at this
  simp only [this]
theorem sett_length (F : Nat → Nat) (way : List Wr) (secs : List Sec) : (sett F way secs).length = secs.length := by
  refine snoc_ind (p := fun way => (sett F way secs).length = secs.length) rfl ?_ way
  intro l x ih
  rw [sett_snoc, List.length_modify, ih]
theorem sett_wf (F : Nat → Nat) (hF : ∀ k, F k ≤ 384) (way : List Wr) (secs : List Sec) (h : ∀ s ∈ secs, s.lasts.length = 384) (hw : ∀ x ∈ way, x.bytes.length = 384) : ∀ s ∈ sett F way secs, s.lasts.length = 384 := by
  revert hw
  refine snoc_ind (p := fun way => (∀ x ∈ way, x.bytes.length = 384) → ∀ s ∈ sett F way secs, s.lasts.length = 384) (fun _ => h) ?_ way
  intro l x ih hw s hs
  rw [sett_snoc] at hs
  have ih' := ih (fun x hx => hw x (by simp [hx]))
  obtain ⟨j, hj, hje⟩ := List.getElem_of_mem hs
  rw [List.getElem_modify] at hje
  split at hje
  · subst hje
    have h1 := hw x (by simp)
    have h2 := hF l.length
    have h3 := ih' _ (List.getElem_mem (by simpa using hj))
    simp only [takeD, List.length_append, List.length_take, List.length_drop, h1, h3]
    omega
  · subst hje
    exact ih' _ (List.getElem_mem (by simpa using hj))
def Sp.is (S : Sp) (i : Int) : Prop := 0 ≤ i ∧ i < (S.secs.length : Int)
instance (S : Sp) (i : Int) : Decidable (S.is i) := by unfold Sp.is; infer_instance
/-- a call that counts -/
def Sp.goes (S : Sp) : Sp × Int :=
  if S.on = false then (S, 6)
  else if S.left = 1 then ({ S with on := false, left := 0, count := S.count + 1 }, 6)
  else ({ S with left := S.left - 1, count := S.count + 1 }, 0)
def Sp.write (S : Sp) (i : Int) (s : List UInt8) : Sp × Int :=
  if ¬ S.is i ∨ s.length ≠ 384 then (S, 1)
  else if S.goes.2 = 0 then ({ S.goes.1 with way := S.way ++ [⟨i.toNat, s⟩] }, 0) else S.goes
def Sp.flush (S : Sp) : Sp × Int :=
  if S.goes.2 = 0 then ({ S.goes.1 with secs := sett (fun _ => 384) S.way S.secs, way := [] }, 0) else S.goes
def Sp.fuse (S : Sp) (n : Int) : Sp × Int := if S.on = false then (S, 6) else ({ S with left := n.toNat }, 0)
def Sp.cut (S : Sp) : Sp × Int := if S.on = false then (S, 6) else ({ S with on := false, left := 0 }, 0)
def Sp.start (S : Sp) (picks : List Int) : Sp × Int :=
  if S.on = true then (S, 10) else ({ S with secs := sett (pickOf picks) S.way S.secs, way := [], on := true }, 0)
def turnS (s : Sec) (at_ : Nat) (m : Nat) : Sec := ⟨s.lasts.set at_ (s.lasts.getD at_ 0 ^^^ UInt8.ofNat m), true⟩
def Sp.rot (S : Sp) (i at_ m : Int) : Sp × Int :=
  if ¬ S.is i ∨ at_ < 0 ∨ 384 ≤ at_ ∨ m < 1 ∨ 255 < m then (S, 1)
  else if newest S.way i.toNat ≠ 0 then (S, 10)
  else if (S.secs.getD i.toNat ⟨[], false⟩).marked = true then (S, 7)
  else ({ S with secs := S.secs.modify i.toNat (fun s => turnS s at_.toNat m.toNat) }, 0)
def Sp.read (S : Sp) (i : Int) : List UInt8 × Int :=
  if ¬ S.is i then ([], 1) else if S.on = false then ([], 6)
  else (lastw S.way i.toNat (S.secs.getD i.toNat ⟨[], false⟩).lasts, 0)
def b384 (c : UInt8) : List UInt8 := List.replicate 384 c
theorem b384_len (c : UInt8) : (b384 c).length = 384 := List.length_replicate
def sec0 : Sec := ⟨b384 0, false⟩
theorem sec0_len : sec0.lasts.length = 384 := b384_len 0
def Sp.mk0 (n : Nat) : Sp := ⟨List.replicate n sec0, [], true, 0, 0⟩
/-! ### Rows of equal width, end to end -/
theorem flat_length (n : Nat) : ∀ (R : List (List Value)), (∀ r ∈ R, r.length = n) → R.flatten.length = R.length * n
  | [], _ => by simp
  | r :: R, h => by
    rw [List.flatten_cons, List.length_append, flat_length n R (fun r hr => h r (by simp [hr])), h r (by simp), List.length_cons, Nat.add_mul]
    omega
theorem flat_get (n : Nat) : ∀ (R : List (List Value)) (i j : Nat), (∀ r ∈ R, r.length = n) → j < n → R.flatten[i * n + j]? = R[i]?.bind (·[j]?)
  | [], i, j, _, _ => by simp
  | r :: R, 0, j, h, hj => by
    have := h r (by simp)
    rw [List.flatten_cons, Nat.zero_mul, Nat.zero_add, List.getElem?_append_left (by omega)]
    simp
  | r :: R, i + 1, j, h, hj => by
    have h1 := h r (by simp)
    rw [List.flatten_cons, List.getElem?_append_right (by rw [h1, Nat.add_mul]; omega), List.getElem?_cons_succ, ← flat_get n R i j (fun r hr => h r (by simp [hr])) hj, h1]
    congr 1
    rw [Nat.add_mul]
    omega
theorem flat_splice (n : Nat) : ∀ (R : List (List Value)) (i o : Nat) (cs : List Value) (hi : i < R.length), (∀ r ∈ R, r.length = n) → o + cs.length ≤ n →
    splice R.flatten (i * n + o) cs = (R.set i (splice R[i] o cs)).flatten
  | [], i, o, cs, hi, _, _ => absurd hi (by simp)
  | r :: R, 0, o, cs, _, h, hj => by
    have := h r (by simp)
    simp only [List.set_cons_zero, List.flatten_cons, List.getElem_cons_zero, Nat.zero_mul, Nat.zero_add, splice]
    rw [List.take_append_of_le_length (by omega), List.drop_append_of_le_length (by omega)]
    simp
  | r :: R, i + 1, o, cs, hi, h, hj => by
    have h1 := h r (by simp)
    have ih := flat_splice n R i o cs (by simpa using hi) (fun r hr => h r (by simp [hr])) hj
    simp only [List.set_cons_succ, List.flatten_cons, List.getElem_cons_succ]
    rw [← ih]
    have e : (i + 1) * n + o = r.length + (i * n + o) := by rw [h1, Nat.add_mul]; omega
    simp only [splice, e]
    rw [List.take_length_add_append, Nat.add_assoc, List.drop_length_add_append]
    simp
theorem flat_set (n : Nat) : ∀ (R : List (List Value)) (i j : Nat) (u : Value) (hi : i < R.length), (∀ r ∈ R, r.length = n) → j < n → R.flatten.set (i * n + j) u = (R.set i (R[i].set j u)).flatten
  | [], i, j, u, hi, _, _ => absurd hi (by simp)
  | r :: R, 0, j, u, _, h, hj => by
    have := h r (by simp)
    simp only [List.set_cons_zero, List.flatten_cons, List.getElem_cons_zero, Nat.zero_mul, Nat.zero_add]
    rw [List.set_append_left _ _ (by omega)]
  | r :: R, i + 1, j, u, hi, h, hj => by
    have h1 := h r (by simp)
    have ih := flat_set n R i j u (by simpa using hi) (fun r hr => h r (by simp [hr])) hj
    simp only [List.set_cons_succ, List.flatten_cons, List.getElem_cons_succ]
    rw [← ih, List.set_append_right _ _ (by rw [h1, Nat.add_mul]; omega), h1]
    congr 2
    rw [Nat.add_mul]
    omega
/-! ### A sector's cells, a write's cells -/
def secCells (s : Sec) (n : Nat) : List Value := bvs s.lasts ++ [.bool s.marked, .int .i64 (n : Int)]
def wrCells (x : Wr) : List Value := .int .i64 (x.place : Int) :: bvs x.bytes
/-- all sectors' cells: their newest writes by f -/
def secRows (secs : List Sec) (f : Nat → Nat) : List (List Value) := secs.mapIdx (fun i s => secCells s (f i))
def wrRows (way : List Wr) : List (List Value) := way.map wrCells
theorem secCells_len (s : Sec) (n : Nat) (h : s.lasts.length = 384) : (secCells s n).length = 386 := by simp [secCells, bvs_len, h]
theorem secRows_len (secs : List Sec) (f : Nat → Nat) (h : ∀ s ∈ secs, s.lasts.length = 384) : ∀ r ∈ secRows secs f, r.length = 386 := by
  intro r hr
  obtain ⟨i, hi, rfl⟩ := List.mem_mapIdx.1 hr
  exact secCells_len _ _ (h _ (List.getElem_mem hi))
theorem secRows_n (secs : List Sec) (f : Nat → Nat) : (secRows secs f).length = secs.length := by simp [secRows]
theorem secRows_get (secs : List Sec) (f : Nat → Nat) (i : Nat) (hi : i < secs.length) : (secRows secs f)[i]'(by simpa [secRows] using hi) = secCells secs[i] (f i) := by simp [secRows]
theorem wrRows_len (way : List Wr) (h : ∀ x ∈ way, x.bytes.length = 384) : ∀ r ∈ wrRows way, r.length = 385 := by
  intro r hr
  obtain ⟨x, hx, rfl⟩ := List.mem_map.1 hr
  simp [wrCells, bvs_len, h x hx]
theorem wrRows_n (way : List Wr) : (wrRows way).length = way.length := by simp [wrRows]
/-- sector i is turned, its newest write too -/
theorem secRows_set (secs : List Sec) (f f' : Nat → Nat) (i : Nat) (s : Sec) (n : Nat) (hi : i < secs.length) (hn : n = f' i) (hf : ∀ j, j ≠ i → f' j = f j) :
    (secRows secs f).set i (secCells s n) = secRows (secs.set i s) f' := by
  apply List.ext_getElem?
  intro j
  simp only [secRows, List.getElem?_set, List.getElem?_mapIdx, List.length_mapIdx]
  by_cases h : i = j
  · subst h; simp [hi, hn]
  · simp [h, hf j (Ne.symm h)]
/-- the cells of sector i -/
theorem sec_cell (secs : List Sec) (f : Nat → Nat) (h : ∀ s ∈ secs, s.lasts.length = 384) (i j : Nat) (hi : i < secs.length) (hj : j < 386) : (secRows secs f).flatten[i * 386 + j]? = (secCells secs[i] (f i))[j]? := by
  rw [flat_get 386 _ i j (secRows_len secs f h) hj, List.getElem?_eq_getElem (by simpa [secRows] using hi), secRows_get secs f i hi]
  rfl
theorem sec_marked (secs : List Sec) (f : Nat → Nat) (h : ∀ s ∈ secs, s.lasts.length = 384) (i : Nat) (hi : i < secs.length) : (secRows secs f).flatten[i * 386 + 384]? = some (.bool secs[i].marked) := by
  rw [sec_cell secs f h i 384 hi (by omega), secCells, List.getElem?_append_right (by rw [bvs_len, h _ (List.getElem_mem hi)]; omega), bvs_len, h _ (List.getElem_mem hi)]
  rfl
theorem sec_newest (secs : List Sec) (f : Nat → Nat) (h : ∀ s ∈ secs, s.lasts.length = 384) (i : Nat) (hi : i < secs.length) : (secRows secs f).flatten[i * 386 + 385]? = some (.int .i64 (f i : Int)) := by
  rw [sec_cell secs f h i 385 hi (by omega), secCells, List.getElem?_append_right (by rw [bvs_len, h _ (List.getElem_mem hi)]; omega), bvs_len, h _ (List.getElem_mem hi)]
  rfl
theorem sec_byte (secs : List Sec) (f : Nat → Nat) (h : ∀ s ∈ secs, s.lasts.length = 384) (i j : Nat) (hi : i < secs.length) (hj : j < 384) : (secRows secs f).flatten[i * 386 + j]? = (bvs secs[i].lasts)[j]? := by
  rw [sec_cell secs f h i j hi (by omega), secCells, List.getElem?_append_left (by rw [bvs_len, h _ (List.getElem_mem hi)]; omega)]
theorem wr_cell (way : List Wr) (h : ∀ x ∈ way, x.bytes.length = 384) (k j : Nat) (hk : k < way.length) (hj : j < 385) : (wrRows way).flatten[k * 385 + j]? = (wrCells way[k])[j]? := by
  rw [flat_get 385 _ k j (wrRows_len way h) hj, List.getElem?_eq_getElem (by simpa [wrRows] using hk)]
  simp [wrRows]
theorem cells_one_sec (s : Sec) (n : Nat) : ∀ u ∈ secCells s n, u.oneCell' = true := by
  intro u hu
  simp only [secCells, List.mem_append, List.mem_cons, List.not_mem_nil, or_false] at hu
  rcases hu with hu | rfl | rfl
  · exact bvs_one _ u hu
  · rfl
  · rfl
theorem cells_one_wr (x : Wr) : ∀ u ∈ wrCells x, u.oneCell' = true := by
  intro u hu
  simp only [wrCells, List.mem_cons] at hu
  rcases hu with rfl | hu
  · rfl
  · exact bvs_one _ u hu
end Go.Proofs.Ytogchfpecbmocaa
