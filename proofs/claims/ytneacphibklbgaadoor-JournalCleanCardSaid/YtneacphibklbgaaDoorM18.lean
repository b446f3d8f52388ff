/-
  Laws for values of many cells: a struct literal that fills a slice's one element, a copy from a text, rows that are made.
-/
import Derived.Test.YtneacphibklbgaaDoorM17
import Derived.Great.BuildSlice
import Derived.BigRegion
import Derived.Deep.RegionHeld
namespace Go.Proofs.YtneacphibklbgaaDoor
open Go.RowKit

/-- copy(dst, s), dst in a row that is known whole, s a text that fits -/
theorem wpl_copy_str {P : Program} {w : World} {ops : Array Oper} {rest : List Oper} {o : Oper} {a : Act} {Q : Exit → Act → World → Prop} (hgd : o.guard = none) (d x : Operand) (dT sT : TypeId)
    (ho : o.op = .call { callee := .builtin .copy, args := #[d, x], argTypes := #[dT, sT] }) (elem : TypeId) (hu : P.underlying dT = some (.slice elem)) (hsz : (P.info? elem).map (·.size) = some 1)
    (g off dLen dCap : Nat) (hd : a.eval d = .slice (some ⟨g, off, none⟩) dLen dCap) (s : ByteArray) (hx : a.eval x = .string s) (cur : List Value) (t : TypeId) (hg : Row w g t cur)
    (h : ∀ w', Row w' g t (splice cur off (bvs (sb s))) → w.grownBy w' (some g) → wpList P ops Q rest (a.put o.dst (goInt s.size)) w')
    (hle : Hid (s.size ≤ dLen)) (hfit : Hid (off + s.size ≤ cur.length)) : wpList P ops Q (o :: rest) a w := by
  refine wpList_plain hgd fun K hK => ?_
  have hrun := Lib.run_copy_row_string (P := P) w dT sT o.type elem g off dLen dCap s cur.toArray t hu hsz hg hle.out (by simpa using hfit.out)
  unfold Oper.wp
  simp [execOp, ho, resolve, invoke, builtin, hd, hx, hrun, Result.andThen]
  refine hK _ _ (h _ ?_ (grownBy_setRow w g _))
  have := setRow_heap w g _ (List.take off cur ++ (Lib.byteCells s.data.toList ++ List.drop (off + s.size) cur)).toArray t (0, 0) hg
  have e : splice cur off (bvs (sb s)) = List.take off cur ++ (Lib.byteCells s.data.toList ++ List.drop (off + s.size) cur) := by
    simp only [splice, bvs_len, sb_len]
    rfl
  unfold Row
  rw [e]
  exact this
theorem foldl_set (l : List Value) : ∀ (k : Nat) (cs : Array Value), k + l.length ≤ cs.size →
    ((l.zipIdx k).foldl (fun (cs : Array Value) (x : Value × Nat) => cs.setIfInBounds x.2 x.1) cs).toList = splice cs.toList k l := by
  induction l with
  | nil => intro k cs _; simp [splice]
  | cons v r ih =>
    intro k cs h
    simp only [List.length_cons] at h
    rw [List.zipIdx_cons, List.foldl_cons, ih (k + 1) _ (by simp; omega)]
    simp only [splice, Array.toList_setIfInBounds, List.length_cons]
    have hk : k < cs.toList.length := by simp; omega
    rw [List.drop_set_of_lt (by omega)]
    have e1 : (cs.toList.set k v).take (k + 1) = cs.toList.take k ++ [v] := by
      rw [List.take_succ_eq_append_getElem (by simpa using hk), List.take_set_of_le (Nat.le_refl _)]
      simp
    rw [e1, List.append_assoc]
    simp [Nat.add_assoc, Nat.add_comm 1]
/-- one part that fills all -/
theorem fill_one (place : Nat → Option (Nat × Nat)) (n : Nat) (cs : Array Value) (vs : List Value) (hp : place 0 = some (0, n)) (hn : vs.length = n) (hc : cs.size = n) :
    Instr.fill place cs [(0, .agg vs.toArray)] = some vs.toArray := by
  subst hn
  have hz : (vs.zipIdx 0).foldl (fun (cs : Array Value) (x : Value × Nat) => cs.setIfInBounds (0 + x.2) x.1) cs = vs.toArray := by
    apply Array.toList_inj.1
    have := foldl_set vs 0 cs (by omega)
    simp only [Nat.zero_add]
    rw [this]
    simp [splice, List.drop_eq_nil_of_le, hc]
  simp only [Nat.zero_add] at hz
  simp [Instr.fill, hp, Value.cells, hc]
  exact hz
/-- []T{x}, x a value of many cells -/
theorem wp_slice1 {P : Program} {o : Oper} {a : Act} {w : World} {K : Act → World → Prop} {Q : Exit → Act → World → Prop} (t e : TypeId) (x : Operand) (ho : o.op = .buildSlice t 1 #[(0, x)])
    (ie : TypeInfo) (z : Value) (size : Nat) (hu : P.underlying t = some (.slice e)) (hie : P.info? e = some ie) (hz : ie.zero = some z) (hs : ie.size = size) (hpos : 0 < size) (hsmall : size ≤ 16777216)
    (cs : List Value) (hx : a.eval x = .agg cs.toArray) (hl : cs.length = size)
    (h : K (a.put o.dst (.slice (some ⟨w.heap.size, 0, none⟩) 1 1)) (w.alloc (.cells cs.toArray e))) : o.wp P a w K Q := by
  refine wp_buildSlice t e 1 _ ho cs.toArray ie z hu hie hz (by rw [hs]; omega) (by rw [hs]; omega) ?_ h
  have e1 : (Array.map (fun (y : Nat × Operand) => (y.1, a.eval y.2)) #[(0, x)]).toList = [(0, a.eval x)] := by simp
  refine Eq.trans (congrArg _ e1) ?_
  rw [hx]
  exact fill_one _ size _ _ (by rw [hs]; simp) hl (by rw [Array.size_map, Array.size_range, hs, Nat.one_mul])
/-- the cells of make([]T, n) -/
theorem madeCells_flat (z : List Value) (n : Nat) (hz : 0 < z.length) : (madeCells z.toArray (n * z.length)).toList = (List.replicate n z).flatten := by
  apply List.ext_getElem?
  intro j
  have hR : ∀ r ∈ List.replicate n z, r.length = z.length := by intro r hr; rw [List.eq_of_mem_replicate hr]
  have e : j = j / z.length * z.length + j % z.length := by rw [Nat.mul_comm]; exact (Nat.div_add_mod j z.length).symm
  have hm := Nat.mod_lt j hz
  rw [show (List.replicate n z).flatten[j]? = (List.replicate n z).flatten[j / z.length * z.length + j % z.length]? from by rw [← e], flat_get z.length _ _ _ hR hm, List.getElem?_replicate]
  by_cases hj : j < n * z.length
  · have h1 : j / z.length < n := Nat.div_lt_of_lt_mul (by rw [Nat.mul_comm]; exact hj)
    rw [if_pos h1]
    simp [madeCells, hj, hm]
  · have h1 : ¬ j / z.length < n := by
      intro h1
      have := (Nat.div_lt_iff_lt_mul hz).1 h1
      omega
    rw [if_neg h1]
    simp [madeCells, hj]
/-- make([]T, n) of elements of more cells -/
theorem wpl_make_big {P : Program} {w : World} {ops : Array Oper} {rest : List Oper} {o : Oper} {a : Act} {Q : Exit → Act → World → Prop}
    (hg : o.guard = none) (l c : Operand) (t : TypeId) (hop : o.op = Op.makeSlice t l c)
    (e : TypeId) (i : TypeInfo) (z : Value) (zs : List Value) (h1 : P.underlying t = some (.slice e)) (h2 : P.info? e = some i) (h3 : i.zero = some z) (h4 : i.size = zs.length) (hz : z.cells = zs.toArray) (hpos : 0 < zs.length)
    (kl kc : IntKind) (L C : Int) (n : Nat) (hl : a.eval l = .int kl L) (hc : a.eval c = .int kc C)
    (hK : ∀ g w', Hid (g = w.heap.size) → Row w' g e (List.replicate n zs).flatten → w.grownBy w' none → wpList P ops Q rest (a.put o.dst (.slice (some ⟨g, 0, none⟩) n n)) w')
    (hL : Hid (L = (n : Int))) (hC : Hid (C = (n : Int))) (b2 : Hid (i.bytes * n ≤ 281474976710656)) (b3 : Hid (n ≤ maxLen)) :
    wpList P ops Q (o :: rest) a w := by
  refine wpList_make_full w hg l c t hop w.heap.size e i z zs.length h1 h2 h3 h4 kl kc L C n hl hc hL.out hC.out b2.out b3.out (Nat.le_refl _) fun w' hown hgr => hK _ w' (hid rfl) ?_ hgr
  rcases hown.2 with ⟨hv, _⟩ | ⟨g, cap, cur, hv, _, hh, _, _, h5, h6⟩
  · simp at hv
  · simp only [Value.slice.injEq, Option.some.injEq, Addr.mk.injEq, true_and, and_true] at hv
    obtain ⟨rfl, rfl⟩ := hv
    have : cur = ((List.replicate n zs).flatten).toArray := by
      apply Array.toList_inj.1
      have h7 : cur.toList.take (n * zs.length) = cur.toList := List.take_of_length_le (by simp only [Array.length_toList]; omega)
      rw [← h7, h6, hz, madeCells_flat zs n hpos]
    subst this
    exact hh
end Go.Proofs.YtneacphibklbgaaDoor
/-
  The walk of Write.
-/
namespace Go.Proofs.YtneacphibklbgaaDoor
open Go.RowKit

theorem row_of {w : World} {g : Nat} {e : TypeId} {cs : List Value} (h : w.heap[g]? = some (.cells cs.toArray e (0, 0))) : Row w g e cs := h
/-- a write's cells, before its bytes are there -/
def z384 : List Value := List.replicate 384 (.int .u8 0)
theorem z384_len : z384.length = 384 := List.length_replicate
def wrz (i : Int) : List Value := .int .i64 i :: z384
theorem wrz_set (i : Int) : (wrz 0).set 0 (.int .i64 i) = wrz i := rfl
theorem zeroWr (w : World) : (zeroValue 98).run Tryd.prog w = .ok (.agg (wrz 0).toArray) w := by kernel_rfl
theorem infoWr : (Tryd.prog.info? 98).map (fun i => (i.zero, i.size, i.bytes)) = some (some (.agg (wrz 0).toArray), 385, 392) := by kernel_rfl
theorem sizeWr : (Tryd.prog.info? 98).map (·.size) = some 385 := by kernel_rfl
theorem sizeU8 : (Tryd.prog.info? 5).map (·.size) = some 1 := by kernel_rfl
theorem wrz_len (i : Int) : (wrz i).length = 385 := by rw [wrz, List.length_cons, z384_len]
theorem wrz_one (i : Int) : ∀ u ∈ wrz i, u.oneCell' = true := by
  intro u hu
  rcases List.mem_cons.1 hu with rfl | hu
  · rfl
  · rw [List.eq_of_mem_replicate hu]; rfl
theorem wrz_copy (k : Nat) (s : List UInt8) (h : s.length = 384) : splice (wrz (k : Int)) 1 (bvs s) = wrCells ⟨k, s⟩ := by
  simp only [splice, wrz, wrCells, bvs_len, h, List.take_succ_cons, List.take_zero]
  rw [List.drop_eq_nil_of_le (by rw [List.length_cons, z384_len]; exact Nat.le_refl _)]
  simp
/-- behind the append and the store of the new slice: the disk but for its newest writes -/
theorem app_facts {w3 w4 : World} {p gs : Nat} {vw : Value} {S : Sp} {g1 : Nat} {ob : Obj} {xs : List Value} (h3 : HasD w3 p gs vw S) (hr3 : Row w3 g1 98 xs) (hne : ∀ b ∈ fpD p gs vw, b ≠ g1) (hg : (w3.drew.alloc ob).grownBy w4 vw.ownBlock) :
    Row w4 p 80 [.slice (some ⟨gs, 0, none⟩) S.secs.length S.secs.length, vw, .bool S.on, .int .i64 (S.left : Int), .int .i64 (S.count : Int)] ∧
    Row w4 gs 95 (secRows S.secs (newest S.way)).flatten ∧ w4.rangeAt g1 0 xs ∧ Fr w3 w4 vw.ownBlock.toList := by
  have h1 : (w3.drew.alloc ob).heap.size = w3.heap.size + 1 := by simp
  have far : ∀ b, b < w3.heap.size → vw.ownBlock ≠ some b → w4.heap[b]? = w3.heap[b]? := fun b hb hn => (hg.block b (by omega) (Ne.symm hn)).trans (Below.heap_alloc w3.drew ob b hb)
  refine ⟨(far p h3.disk.lt h3.ne2).trans h3.disk, (far gs h3.secs.lt h3.ne3).trans h3.secs, ?_, ?_⟩
  · have hr4 : Row w4 g1 98 xs := (far g1 hr3.lt (fun e => hne g1 (by simp [fpD, e]) rfl)).trans hr3
    intro j v hv
    rw [Nat.zero_add]
    exact hr4.at_ j v hv
  · exact (((Fr.refl w3 vw.ownBlock.toList).drew.alloc ob).grown hg (by intro b hb; exact .inl (by simp [hb])))
/-- behind the store of the newest write's place -/
theorem write_end {w w1 w3 w4 : World} {p gs : Nat} {vw : Value} {S : Sp} {k g cap : Nat} {s : List UInt8} (hf1 : Fr w w1 [p]) (hf3 : Fr w1 w3 []) (h3 : HasD w3 p gs vw S) (hf4 : Fr w3 w4 vw.ownBlock.toList) (hs : s.length = 384) (hk : k < S.secs.length) (hc : S.way.length < S.count)
    (hp : Row w4 p 80 [.slice (some ⟨gs, 0, none⟩) S.secs.length S.secs.length, vw, .bool S.on, .int .i64 (S.left : Int), .int .i64 (S.count : Int)])
    (hq : Row w4 gs 95 (secRows S.secs (newest S.way)).flatten)
    (ho : w4.ownsRow 0 98 385 (.slice (some ⟨g, 0, none⟩) (S.way.length + 1) cap) (S.way.length + 1) ((wrRows S.way).flatten ++ wrCells ⟨k, s⟩))
    (hat : vw.ownBlock = some g ∨ g = w3.heap.size + 1) :
    let w5 := w4.setCell ⟨p, 1, none⟩ (.slice (some ⟨g, 0, none⟩) (S.way.length + 1) cap)
    let w6 := w5.setCell ⟨gs, k * 386 + 385, none⟩ (.int .i64 ((S.way.length : Int) + 1))
    HasD w6 p gs (.slice (some ⟨g, 0, none⟩) (S.way.length + 1) cap) { S with way := S.way ++ [⟨k, s⟩] } ∧ Fr w w6 (fpD p gs vw) ∧ (vw.ownBlock = some g ∨ w.heap.size ≤ g) := by
  intro w5 w6
  have hgp : g ≠ p := by
    rintro rfl
    rcases hat with h | h
    · exact h3.ne2 h
    · have := h3.disk.lt; omega
  have hgs : g ≠ gs := by
    rintro rfl
    rcases hat with h | h
    · exact h3.ne3 h
    · have := h3.secs.lt; omega
  have hf6 : Fr w w6 (fpD p gs vw) := by
    have a1 : Fr w w3 (fpD p gs vw) := (hf1.mono (fq := fpD p gs vw) (by simp [fpD])).trans hf3 (by simp)
    have a2 : Fr w w4 (fpD p gs vw) := a1.trans hf4 (by intro b hb _; simp at hb; simp [fpD, hb])
    exact (a2.setCell (p := ⟨p, 1, none⟩) (.inl (by simp [fpD])) _).setCell (p := ⟨gs, k * 386 + 385, none⟩) (.inl (by simp [fpD])) _
  refine ⟨⟨?_, ?_, ?_, h3.ne1, ?_, ?_, ?_⟩, hf6, ?_⟩
  · have := (hp.set_ 1 (.slice (some ⟨g, 0, none⟩) (S.way.length + 1) cap)).far (p := ⟨gs, k * 386 + 385, none⟩) h3.ne1 (.int .i64 ((S.way.length : Int) + 1))
    exact this
  · have := (hq.far (p := ⟨p, 1, none⟩) (Ne.symm h3.ne1) (.slice (some ⟨g, 0, none⟩) (S.way.length + 1) cap)).set_ (k * 386 + 385) (.int .i64 ((S.way.length + 1 : Nat) : Int))
    rw [sec_new S.secs (newest S.way) (newest (S.way ++ [⟨k, s⟩])) h3.wf.len k hk (S.way.length + 1) (by rw [newest_snoc, if_pos rfl]) (fun j hj => by rw [newest_snoc, if_neg (Ne.symm hj)])] at this
    exact this
  · have e : (wrRows (S.way ++ [⟨k, s⟩])).flatten = (wrRows S.way).flatten ++ wrCells ⟨k, s⟩ := by simp [wrRows]
    have a0 : Fr w4 w6 [p, gs] := ((Fr.refl w4 [p, gs]).setCell (p := ⟨p, 1, none⟩) (by simp) _).setCell (p := ⟨gs, k * 386 + 385, none⟩) (by simp) _
    have := a0.own ho (by intro b hb; cases hb; simp [hgp, hgs])
    simp only [List.length_append, List.length_cons, List.length_nil, Nat.zero_add]
    rw [e]
    exact this
  · simpa [Value.ownBlock] using hgp
  · simpa [Value.ownBlock] using hgs
  · refine ⟨h3.wf.len, ?_, h3.wf.few, h3.wf.left, ?_⟩
    · intro x hx
      rcases List.mem_append.1 hx with hx | hx
      · exact h3.wf.way x hx
      · simp at hx; subst hx; exact ⟨hk, hs⟩
    · simp only [List.length_append, List.length_cons, List.length_nil]; omega
  · rcases hat with h | h
    · exact .inl h
    · right; have := hf1.size; have := hf3.size; omega
theorem Sp.write_ok {S : Sp} {k : Nat} {s : List UInt8} (hk : k < S.secs.length) (hs : s.length = 384) (ho : S.on = true) (hl : S.left ≠ 1) :
    S.write k s = ({ S with left := S.left - 1, count := S.count + 1, way := S.way ++ [⟨k, s⟩] }, 0) := by
  unfold Sp.write
  rw [if_neg (by rintro (h | h); exact h ⟨by omega, by omega⟩; exact h hs), Sp.goes_more ho hl, if_pos rfl]
  rfl
set_option maxRecDepth 10000 in
set_option maxHeartbeats 1000000 in
theorem write_ok (p gs : Nat) (vw : Value) (S : Sp) (k : Nat) (s : ByteArray) (w : World) (h : HasD w p gs vw S) (hk : k < S.secs.length) (hs : s.size = 384) (ho : S.on = true) (hl : S.left ≠ 1) (hc : S.count ≤ 1048576) :
    Calls Tryd.prog 47 #[dptr p, .int .i64 (k : Int), .string s] w (DE w p gs vw (S.write k (sb s))) := by
  have hb : (k : Int) < (S.secs.length : Int) := by omega
  have H0 : (0 : Int) ≤ (k : Int) := by omega
  have hsz : (s.size : Int) = 384 := by omega
  have hway := h.wf.less
  have hzw := zeroWr
  have hbw := wrz_set
  rw [Sp.write_ok hk (by rw [sb_len]; exact hs) ho hl]
  have HS := hid hs
  clear hs
  unfold dptr
  go_enter Tryd.func47, Tryd.ntmps47
  go_wp2_with (first
    | (go_at_call 50; refine (has_yes _ p gs vw S _ h H0 hb).mono ?_; rintro e w1 ⟨rfl, rfl⟩)
    | (go_at_call 65; refine (goes_more p gs vw S _ h ho hl (by omega)).mono ?_; rintro e w1 ⟨rfl, h1, hf1⟩; have hn := heap_alloc_new w1 (.cells (wrz 0).toArray 98); have HN := hid hn; clear hn)
    | (with_reducible refine wpList_store_row rfl 98 (.tmp 8) (.tmp 26) rfl w1.heap.size (wrz (k : Int)).toArray rfl rfl 98 (wrz 0).toArray HN.out (by simp [sizeWr, wrz_len]) (by simp [wrz_len]) (all_oneCell_toArray (wrz_one _)) ?_; have hn := setRow_heap _ w1.heap.size _ (wrz (k : Int)).toArray 98 (0, 0) HN.out; have HN2 := hid (row_of hn); clear hn)
    | (with_reducible refine wpl_copy_str rfl (.tmp 28) (.tmp 29) 96 9 rfl 5 Tryd.underlying96 sizeU8 w1.heap.size 1 384 384 rfl s rfl (wrz (k : Int)) 98 HN2.out ?_ (hid (by rw [HS.out]; exact Nat.le_refl _)) (hid (by rw [HS.out, wrz_len]; exact Nat.le_refl _)); intro w3 hr3 hg3))
  have hf3 : Fr w1 w3 [] := (((Fr.refl w1 []).alloc _).grown (grownBy_setRow _ w1.heap.size _) (by intro b hb; cases hb; exact .inr (Nat.le_refl _))).grown hg3 (by intro b hb; cases hb; exact .inr (Nat.le_refl _))
  have h3 := h1.fr hf3 (by simp)
  rw [wrz_copy k (sb s) (by rw [sb_len]; exact HS.out)] at hr3
  have hX : w3.rangeAt w1.heap.size 0 (wrCells ⟨k, sb s⟩) := fun j v hv => by rw [Nat.zero_add]; exact hr3.at_ j v hv
  have hlw : (wrCells ⟨k, sb s⟩).length = 385 := by simp [wrCells, bvs_len, sb_len, HS.out]
  have c31 := h3.c1
  refine wp_region_held_drew (S := fun w' => w'.rangeAt w1.heap.size 0 (wrCells ⟨k, sb s⟩)) (by kernel_rfl) hX (fun hH => ?_)
  refine wpAnyH_take (i := 0) (v := .pointer (some ⟨p, 0, none⟩)) rfl (by kernel_rfl) (by kernel_rfl) (by kernel_rfl) (fun _ _ _ h => h) (Or.inl ⟨by rfl, fun w' hw' => by go_simp⟩) hH ?_
  simp only [Act.put]
  refine wpAnyH_take (i := 1) (v := .pointer (some ⟨p, 0, none⟩)) rfl (by kernel_rfl) (by kernel_rfl) (by kernel_rfl) (fun _ _ _ h => h) (Or.inl ⟨by rfl, fun w' hw' => by go_simp⟩) hH ?_
  simp only [Act.put]
  refine wpAnyH_take (i := 2) (v := .pointer (some ⟨p, 0, none⟩)) rfl (by kernel_rfl) (by kernel_rfl) (by kernel_rfl) (fun _ _ _ h => h) (Or.inl ⟨by rfl, fun w' hw' => by go_simp⟩) hH ?_
  simp only [Act.put]
  refine wpAnyH_take (i := 3) (v := .pointer (some ⟨p, 1, none⟩)) rfl (by kernel_rfl) (by kernel_rfl) (by kernel_rfl) (fun _ _ _ h => h) (Or.inl ⟨by rfl, fun w' hw' => by go_simp⟩) hH ?_
  simp only [Act.put]
  refine wpAnyH_take (i := 5) (v := .agg (wrCells ⟨k, sb s⟩).toArray) rfl (by kernel_rfl) (by kernel_rfl) (by kernel_rfl) (fun _ _ _ h => h)
    (yieldsIf_load_mid (by rfl) 98 (.tmp 8) rfl w1.heap.size 0 rfl _ _ (fun _ hw => hw) Tryd.underlying98 rfl (by rw [hlw]; exact sizeWr)) hH ?_
  simp only [Act.put]
  obtain ⟨i0, hi, hz0, hz1, hz2⟩ := info_parts infoWr
  have hne : ∀ b ∈ fpD p gs vw, b ≠ w1.heap.size := fun b hb => by have := h1.lt b hb; omega
  have hnews : ∀ j u, (wrCells ⟨k, sb s⟩)[j]? = some u → (w3.drew.alloc (.cells (wrCells ⟨k, sb s⟩).toArray 98)).cell? ((⟨w3.heap.size, 0, none⟩ : Addr).add j) = some u := by
    have := World.news_of_block (heap_alloc_new w3.drew (.cells (wrCells ⟨k, sb s⟩).toArray 98))
    simpa using this
  refine wpAnyH_ready (rs := [4, 6]) (by kernel_rfl) (by simp) ?_
  refine AllReadyH.cons rfl (fun K hK => ?_) (AllReadyH.cons rfl (fun K hK => ?_) AllReadyH.nil)
  · go_simp
    refine hK.out _ _ hH (fun hH2 => ?_)
    refine wpAnyH_ready (rs := [6]) (by kernel_rfl) (by simp) ?_
    refine AllReadyH.cons rfl (fun K hK => ?_) AllReadyH.nil
    rw [if_pos (by rfl)]
    refine wp_slice1 78 98 (.tmp 36) rfl i0 _ 385 Tryd.underlying78 hi hz0 hz1 (by decide) (by decide) (wrCells ⟨k, sb s⟩) rfl hlw ?_
    simp only [Act.put]
    refine hK.out _ _ (World.rangeAt_alloc hH _) (fun hH3 => ?_)
    refine wpAnyH_ready (rs := [7]) (by kernel_rfl) (by simp) ?_
    refine AllReadyH.cons rfl (fun K hK => ?_) AllReadyH.nil
    refine step_append_lies _ rfl (.tmp 35) (.tmp 37) 78 rfl 0 98 i0 _ 385 392 Tryd.underlying78 hi hz0 hz1 hz2 (wrz_len 0) (by decide) vw S.way.length (wrRows S.way).flatten rfl ((h3.wrs.drew).alloc _) ⟨w3.heap.size, 0, none⟩ 1 1 (wrCells ⟨k, sb s⟩) rfl (by rw [hlw]) hnews (cells_one_wr _) (by decide) (le_maxLen (by omega)) (by omega) (Nat.zero_le _) (w3.heap.size + 1) (by simp) ?_
    intro g cap w4 ho4 hg4 hat hlt4
    obtain ⟨q1, q2, q3, q4⟩ := app_facts h3 hr3 hne hg4
    simp only [Act.put]
    refine hK.out _ _ q3 (fun hH4 => ?_)
    refine wpAnyH_take (i := 8) (v := .pointer (some ⟨p, 0, none⟩)) rfl (by kernel_rfl) (by kernel_rfl) (by kernel_rfl) (fun _ _ _ h => h) (Or.inl ⟨by rfl, fun w' hw' => by go_simp⟩) hH4 ?_
    simp only [Act.put]
    refine wpAnyH_take (i := 9) (v := .pointer (some ⟨p, 1, none⟩)) rfl (by kernel_rfl) (by kernel_rfl) (by kernel_rfl) (fun _ _ _ h => h) (Or.inl ⟨by rfl, fun w' hw' => by go_simp⟩) hH4 ?_
    simp only [Act.put]
    have c41 := q1.at_ 1 _ rfl
    have f41 := q1.frozen 1
    refine wpAnyH_ready (rs := [10]) (by kernel_rfl) (by simp) ?_
    refine AllReadyH.cons rfl (fun K hK => ?_) AllReadyH.nil
    go_simp
    have hH5 : (w4.setCell ⟨p, 1, none⟩ (.slice (some ⟨g, 0, none⟩) (S.way.length + 1) cap)).rangeAt w1.heap.size 0 (wrCells ⟨k, sb s⟩) := fun j v hv => by
      rw [World.cell?_setCell_far _ _ _ _ (hne p (by simp [fpD]))]
      exact q3 j v hv
    refine hK.out _ _ hH5 (fun hH6 => ?_)
    refine wpAnyH_done (by kernel_rfl) ?_ _
    have WE := hid (write_end (k := k) (s := sb s) hf1 hf3 h3 q4 (by rw [sb_len]; exact HS.out) hk (by show S.way.length < S.count + 1; omega) q1 q2 ho4 hat)
    have r1 := q1.set_ 1 (.slice (some ⟨g, 0, none⟩) (S.way.length + 1) cap)
    have r2 := q2.far (p := ⟨p, 1, none⟩) (Ne.symm h3.ne1) (.slice (some ⟨g, 0, none⟩) (S.way.length + 1) cap)
    have c50 := r1.at_ 0 _ rfl
    have c51 := r1.at_ 1 _ rfl
    have c5n := r2.at_ _ _ (sec_newest S.secs (newest S.way) h3.wf.len k hk)
    have f5n := r2.frozen (k * 386 + 385)
    generalize (w4.setCell ⟨p, 1, none⟩ (.slice (some ⟨g, 0, none⟩) (S.way.length + 1) cap)) = w5 at *
    clear hH hH2 hH3 hH4 hH5 hH6 q1 q2 q3 q4 r1 r2 c41 f41 ho4 hg4 c31 hX hr3 hf3
    go_wp2_with fail
    go_region
    go_wp2_with fail
    go_ret
    exact ⟨_, rfl, (WE.out.1).drew, (WE.out.2.1).drew, fun g' hg' => by cases hg'; exact WE.out.2.2⟩
  · rw [if_pos (by rfl)]
    refine wp_slice1 78 98 (.tmp 36) rfl i0 _ 385 Tryd.underlying78 hi hz0 hz1 (by decide) (by decide) (wrCells ⟨k, sb s⟩) rfl hlw ?_
    simp only [Act.put]
    refine hK.out _ _ (World.rangeAt_alloc hH _) (fun hH3 => ?_)
    have c32 : (w3.alloc (.cells (wrCells ⟨k, sb s⟩).toArray 98)).cell? ⟨p, 1, none⟩ = some vw := (World.cell?_alloc_lt _ _ _ h3.disk.lt).trans c31
    refine wpAnyH_ready (rs := [4]) (by kernel_rfl) (by simp) ?_
    refine AllReadyH.cons rfl (fun K hK => ?_) AllReadyH.nil
    go_simp
    refine hK.out _ _ hH3 (fun hH2 => ?_)
    refine wpAnyH_ready (rs := [7]) (by kernel_rfl) (by simp) ?_
    refine AllReadyH.cons rfl (fun K hK => ?_) AllReadyH.nil
    refine step_append_lies _ rfl (.tmp 35) (.tmp 37) 78 rfl 0 98 i0 _ 385 392 Tryd.underlying78 hi hz0 hz1 hz2 (wrz_len 0) (by decide) vw S.way.length (wrRows S.way).flatten rfl ((h3.wrs.drew).alloc _) ⟨w3.heap.size, 0, none⟩ 1 1 (wrCells ⟨k, sb s⟩) rfl (by rw [hlw]) hnews (cells_one_wr _) (by decide) (le_maxLen (by omega)) (by omega) (Nat.zero_le _) (w3.heap.size + 1) (by simp) ?_
    intro g cap w4 ho4 hg4 hat hlt4
    obtain ⟨q1, q2, q3, q4⟩ := app_facts h3 hr3 hne hg4
    simp only [Act.put]
    refine hK.out _ _ q3 (fun hH4 => ?_)
    refine wpAnyH_take (i := 8) (v := .pointer (some ⟨p, 0, none⟩)) rfl (by kernel_rfl) (by kernel_rfl) (by kernel_rfl) (fun _ _ _ h => h) (Or.inl ⟨by rfl, fun w' hw' => by go_simp⟩) hH4 ?_
    simp only [Act.put]
    refine wpAnyH_take (i := 9) (v := .pointer (some ⟨p, 1, none⟩)) rfl (by kernel_rfl) (by kernel_rfl) (by kernel_rfl) (fun _ _ _ h => h) (Or.inl ⟨by rfl, fun w' hw' => by go_simp⟩) hH4 ?_
    simp only [Act.put]
    have c41 := q1.at_ 1 _ rfl
    have f41 := q1.frozen 1
    refine wpAnyH_ready (rs := [10]) (by kernel_rfl) (by simp) ?_
    refine AllReadyH.cons rfl (fun K hK => ?_) AllReadyH.nil
    go_simp
    have hH5 : (w4.setCell ⟨p, 1, none⟩ (.slice (some ⟨g, 0, none⟩) (S.way.length + 1) cap)).rangeAt w1.heap.size 0 (wrCells ⟨k, sb s⟩) := fun j v hv => by
      rw [World.cell?_setCell_far _ _ _ _ (hne p (by simp [fpD]))]
      exact q3 j v hv
    refine hK.out _ _ hH5 (fun hH6 => ?_)
    refine wpAnyH_done (by kernel_rfl) ?_ _
    have WE := hid (write_end (k := k) (s := sb s) hf1 hf3 h3 q4 (by rw [sb_len]; exact HS.out) hk (by show S.way.length < S.count + 1; omega) q1 q2 ho4 hat)
    have r1 := q1.set_ 1 (.slice (some ⟨g, 0, none⟩) (S.way.length + 1) cap)
    have r2 := q2.far (p := ⟨p, 1, none⟩) (Ne.symm h3.ne1) (.slice (some ⟨g, 0, none⟩) (S.way.length + 1) cap)
    have c50 := r1.at_ 0 _ rfl
    have c51 := r1.at_ 1 _ rfl
    have c5n := r2.at_ _ _ (sec_newest S.secs (newest S.way) h3.wf.len k hk)
    have f5n := r2.frozen (k * 386 + 385)
    generalize (w4.setCell ⟨p, 1, none⟩ (.slice (some ⟨g, 0, none⟩) (S.way.length + 1) cap)) = w5 at *
    clear hH hH2 hH3 hH4 hH5 hH6 q1 q2 q3 q4 r1 r2 c41 f41 ho4 hg4 c31 c32 hX hr3 hf3
    go_wp2_with fail
    go_region
    go_wp2_with fail
    go_ret
    exact ⟨_, rfl, (WE.out.1).drew, (WE.out.2.1).drew, fun g' hg' => by cases hg'; exact WE.out.2.2⟩
end Go.Proofs.YtneacphibklbgaaDoor
