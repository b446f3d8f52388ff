/-
  Laws for values of many cells: a struct literal that fills a slice's one element, a copy from a text, rows that are made.
-/
import Derived.Test.YtafbeepacncooaaDoorM13
import Derived.Great.BuildSlice
import Derived.BigRegion
import Derived.Deep.RegionHeld
import Derived.Test.YtafbeepacncooaaDoorM03
namespace Go.Proofs.YtafbeepacncooaaDoor
open Go.RowKit

/-- copy(dst, s), dst in a row that is known whole, s a text that fits -/
theorem wpl_copy_str {P : Program} {w : World} {ops : Array Oper} {rest : List Oper} {o : Oper} {a : Act} {Q : Exit → Act → World → Prop} (hgd : o.guard = none) (d x : Operand) (dT sT : TypeId)
    (ho : o.op = .call { callee := .builtin .copy, args := #[d, x], argTypes := #[dT, sT] }) (elem : TypeId) (hu : P.underlying dT = some (.slice elem)) (hsz : (P.info? elem).map (·.size) = some 1)
    (g off dLen dCap : Nat) (hd : a.eval d = .slice (some ⟨g, off, none⟩) dLen dCap) (s : ByteArray) (hx : a.eval x = .string s) (cur : List Value) (t : TypeId) (hg : Row w g t cur)
    (h : ∀ w', Row w' g t (splice cur off (bvs (sb s))) → w.grownBy w' (some g) → wpList P ops Q rest (a.put o.dst (goInt s.size)) w')
    (hle : Hid (s.size ≤ dLen)) (hfit : Hid (off + s.size ≤ cur.length)) : wpList P ops Q (o :: rest) a w := by
  refine wpList_plain hgd fun K hK => ?_
  have hrun := Lib.run_copy_row_string (P := P) w dT sT o.type elem g off dLen dCap s cur.toArray t hu hsz hg hle.out (by simpa using hfit.out)
  unfold Oper.wp
  simp [execOp, ho, resolve, invoke, builtin, hd, hx, hrun, Result.andThen]
  refine hK _ _ (h _ ?_ (grownBy_setRow w g _))
  have := setRow_heap w g _ (List.take off cur ++ (Lib.byteCells s.data.toList ++ List.drop (off + s.size) cur)).toArray t (0, 0) hg
  have e : splice cur off (bvs (sb s)) = List.take off cur ++ (Lib.byteCells s.data.toList ++ List.drop (off + s.size) cur) := by
    simp only [splice, bvs_len, sb_len]
    rfl
  unfold Row
  rw [e]
  exact this
theorem foldl_set (l : List Value) : ∀ (k : Nat) (cs : Array Value), k + l.length ≤ cs.size →
    ((l.zipIdx k).foldl (fun (cs : Array Value) (x : Value × Nat) => cs.setIfInBounds x.2 x.1) cs).toList = splice cs.toList k l := by
  induction l with
  | nil => intro k cs _; simp [splice]
  | cons v r ih =>
    intro k cs h
    simp only [List.length_cons] at h
    rw [List.zipIdx_cons, List.foldl_cons, ih (k + 1) _ (by simp; omega)]
    simp only [splice, Array.toList_setIfInBounds, List.length_cons]
    have hk : k < cs.toList.length := by simp; omega
    rw [List.drop_set_of_lt (by omega)]
    have e1 : (cs.toList.set k v).take (k + 1) = cs.toList.take k ++ [v] := by
      rw [List.take_succ_eq_append_getElem (by simpa using hk), List.take_set_of_le (Nat.le_refl _)]
      simp
    rw [e1, List.append_assoc]
    simp [Nat.add_assoc, Nat.add_comm 1]
/-- one part that fills all -/
theorem fill_one (place : Nat → Option (Nat × Nat)) (n : Nat) (cs : Array Value) (vs : List Value) (hp : place 0 = some (0, n)) (hn : vs.length = n) (hc : cs.size = n) :
    Instr.fill place cs [(0, .agg vs.toArray)] = some vs.toArray := by
  subst hn
  have hz : (vs.zipIdx 0).foldl (fun (cs : Array Value) (x : Value × Nat) => cs.setIfInBounds (0 + x.2) x.1) cs = vs.toArray := by
    apply Array.toList_inj.1
    have := foldl_set vs 0 cs (by omega)
    simp only [Nat.zero_add]
    rw [this]
    simp [splice, List.drop_eq_nil_of_le, hc]
  simp only [Nat.zero_add] at hz
  simp [Instr.fill, hp, Value.cells, hc]
  exact hz
/-- []T{x}, x a value of many cells -/
theorem wp_slice1 {P : Program} {o : Oper} {a : Act} {w : World} {K : Act → World → Prop} {Q : Exit → Act → World → Prop} (t e : TypeId) (x : Operand) (ho : o.op = .buildSlice t 1 #[(0, x)])
    (ie : TypeInfo) (z : Value) (size : Nat) (hu : P.underlying t = some (.slice e)) (hie : P.info? e = some ie) (hz : ie.zero = some z) (hs : ie.size = size) (hpos : 0 < size) (hsmall : size ≤ 16777216)
    (cs : List Value) (hx : a.eval x = .agg cs.toArray) (hl : cs.length = size)
    (h : K (a.put o.dst (.slice (some ⟨w.heap.size, 0, none⟩) 1 1)) (w.alloc (.cells cs.toArray e))) : o.wp P a w K Q := by
  refine wp_buildSlice t e 1 _ ho cs.toArray ie z hu hie hz (by rw [hs]; omega) (by rw [hs]; omega) ?_ h
  have e1 : (Array.map (fun (y : Nat × Operand) => (y.1, a.eval y.2)) #[(0, x)]).toList = [(0, a.eval x)] := by simp
  refine Eq.trans (congrArg _ e1) ?_
  rw [hx]
  exact fill_one _ size _ _ (by rw [hs]; simp) hl (by rw [Array.size_map, Array.size_range, hs, Nat.one_mul])
/-- the cells of make([]T, n) -/
theorem madeCells_flat (z : List Value) (n : Nat) (hz : 0 < z.length) : (madeCells z.toArray (n * z.length)).toList = (List.replicate n z).flatten := by
  apply List.ext_getElem?
  intro j
  have hR : ∀ r ∈ List.replicate n z, r.length = z.length := by intro r hr; rw [List.eq_of_mem_replicate hr]
  have e : j = j / z.length * z.length + j % z.length := by rw [Nat.mul_comm]; exact (Nat.div_add_mod j z.length).symm
  have hm := Nat.mod_lt j hz
  rw [show (List.replicate n z).flatten[j]? = (List.replicate n z).flatten[j / z.length * z.length + j % z.length]? from by rw [← e], flat_get z.length _ _ _ hR hm, List.getElem?_replicate]
  by_cases hj : j < n * z.length
  · have h1 : j / z.length < n := Nat.div_lt_of_lt_mul (by rw [Nat.mul_comm]; exact hj)
    rw [if_pos h1]
    simp [madeCells, hj, hm]
  · have h1 : ¬ j / z.length < n := by
      intro h1
      have := (Nat.div_lt_iff_lt_mul hz).1 h1
      omega
    rw [if_neg h1]
    simp [madeCells, hj]
/-- make([]T, n) of elements of more cells -/
theorem wpl_make_big {P : Program} {w : World} {ops : Array Oper} {rest : List Oper} {o : Oper} {a : Act} {Q : Exit → Act → World → Prop}
    (hg : o.guard = none) (l c : Operand) (t : TypeId) (hop : o.op = Op.makeSlice t l c)
    (e : TypeId) (i : TypeInfo) (z : Value) (zs : List Value) (h1 : P.underlying t = some (.slice e)) (h2 : P.info? e = some i) (h3 : i.zero = some z) (h4 : i.size = zs.length) (hz : z.cells = zs.toArray) (hpos : 0 < zs.length)
    (kl kc : IntKind) (L C : Int) (n : Nat) (hl : a.eval l = .int kl L) (hc : a.eval c = .int kc C)
    (hK : ∀ g w', Hid (g = w.heap.size) → Row w' g e (List.replicate n zs).flatten → w.grownBy w' none → wpList P ops Q rest (a.put o.dst (.slice (some ⟨g, 0, none⟩) n n)) w')
    (hL : Hid (L = (n : Int))) (hC : Hid (C = (n : Int))) (b2 : Hid (i.bytes * n ≤ 281474976710656)) (b3 : Hid (n ≤ maxLen)) :
    wpList P ops Q (o :: rest) a w := by
  refine wpList_make_full w hg l c t hop w.heap.size e i z zs.length h1 h2 h3 h4 kl kc L C n hl hc hL.out hC.out b2.out b3.out (Nat.le_refl _) fun w' hown hgr => hK _ w' (hid rfl) ?_ hgr
  rcases hown.2 with ⟨hv, _⟩ | ⟨g, cap, cur, hv, _, hh, _, _, h5, h6⟩
  · simp at hv
  · simp only [Value.slice.injEq, Option.some.injEq, Addr.mk.injEq, true_and, and_true] at hv
    obtain ⟨rfl, rfl⟩ := hv
    have : cur = ((List.replicate n zs).flatten).toArray := by
      apply Array.toList_inj.1
      have h7 : cur.toList.take (n * zs.length) = cur.toList := List.take_of_length_le (by simp only [Array.length_toList]; omega)
      rw [← h7, h6, hz, madeCells_flat zs n hpos]
    subst this
    exact hh
end Go.Proofs.YtafbeepacncooaaDoor
/-
  The walk of Write.
-/
namespace Go.Proofs.YtafbeepacncooaaDoor
open Go.RowKit

theorem row_of {w : World} {g : Nat} {e : TypeId} {cs : List Value} (h : w.heap[g]? = some (.cells cs.toArray e (0, 0))) : Row w g e cs := h
/-- a write's cells, before its bytes are there -/
def z384 : List Value := List.replicate 384 (.int .u8 0)
theorem z384_len : z384.length = 384 := List.length_replicate
def wrz (i : Int) : List Value := .int .i64 i :: z384
theorem wrz_set (i : Int) : (wrz 0).set 0 (.int .i64 i) = wrz i := rfl
theorem zeroWr (w : World) : (zeroValue 98).run Tryd.prog w = .ok (.agg (wrz 0).toArray) w := by kernel_rfl
theorem infoWr : (Tryd.prog.info? 98).map (fun i => (i.zero, i.size, i.bytes)) = some (some (.agg (wrz 0).toArray), 385, 392) := by kernel_rfl
theorem sizeWr : (Tryd.prog.info? 98).map (·.size) = some 385 := by kernel_rfl
theorem sizeU8 : (Tryd.prog.info? 5).map (·.size) = some 1 := by kernel_rfl
theorem wrz_len (i : Int) : (wrz i).length = 385 := by rw [wrz, List.length_cons, z384_len]
theorem wrz_one (i : Int) : ∀ u ∈ wrz i, u.oneCell' = true := by
  intro u hu
  rcases List.mem_cons.1 hu with rfl | hu
  · rfl
  · rw [List.eq_of_mem_replicate hu]; rfl
theorem wrz_copy (k : Nat) (s : List UInt8) (h : s.length = 384) : splice (wrz (k : Int)) 1 (bvs s) = wrCells ⟨k, s⟩ := by
  simp only [splice, wrz, wrCells, bvs_len, h, List.take_succ_cons, List.take_zero]
  rw [List.drop_eq_nil_of_le (by rw [List.length_cons, z384_len]; exact Nat.le_refl _)]
  simp
/-- behind the append and the store of the new slice: the disk but for its newest writes -/
theorem app_facts {w3 w4 : World} {p gs : Nat} {vw : Value} {S : Sp} {g1 : Nat} {ob : Obj} {xs : List Value} (h3 : HasD w3 p gs vw S) (hr3 : Row w3 g1 98 xs) (hne : ∀ b ∈ fpD p gs vw, b ≠ g1) (hg : (w3.drew.alloc ob).grownBy w4 vw.ownBlock) :
    Row w4 p 80 [.slice (some ⟨gs, 0, none⟩) S.secs.length S.secs.length, vw, .bool S.on, .int .i64 (S.left : Int), .int .i64 (S.count : Int)] ∧
    Row w4 gs 95 (secRows S.secs (newest S.way)).flatten ∧ w4.rangeAt g1 0 xs ∧ Fr w3 w4 vw.ownBlock.toList := by
  have h1 : (w3.drew.alloc ob).heap.size = w3.heap.size + 1 := by simp
  have far : ∀ b, b < w3.heap.size → vw.ownBlock ≠ some b → w4.heap[b]? = w3.heap[b]? := fun b hb hn => (hg.block b (by omega) (Ne.symm hn)).trans (Below.heap_alloc w3.drew ob b hb)
  refine ⟨(far p h3.disk.lt h3.ne2).trans h3.disk, (far gs h3.secs.lt h3.ne3).trans h3.secs, ?_, ?_⟩
  · have hr4 : Row w4 g1 98 xs := (far g1 hr3.lt (fun e => hne g1 (by simp [fpD, e]) rfl)).trans hr3
    intro j v hv
    rw [Nat.zero_add]
    exact hr4.at_ j v hv
  · exact (((Fr.refl w3 vw.ownBlock.toList).drew.alloc ob).grown hg (by intro b hb; exact .inl (by simp [hb])))
/-- behind the store of the newest write's place -/
theorem write_end {w w1 w3 w4 : World} {p gs : Nat} {vw : Value} {S : Sp} {k g cap : Nat} {s : List UInt8} (hf1 : Fr w w1 [p]) (hf3 : Fr w1 w3 []) (h3 : HasD w3 p gs vw S) (hf4 : Fr w3 w4 vw.ownBlock.toList) (hs : s.length = 384) (hk : k < S.secs.length) (hc : S.way.length < S.count)
    (hp : Row w4 p 80 [.slice (some ⟨gs, 0, none⟩) S.secs.length S.secs.length, vw, .bool S.on, .int .i64 (S.left : Int), .int .i64 (S.count : Int)])
    (hq : Row w4 gs 95 (secRows S.secs (newest S.way)).flatten)
    (ho : w4.ownsRow 0 98 385 (.slice (some ⟨g, 0, none⟩) (S.way.length + 1) cap) (S.way.length + 1) ((wrRows S.way).flatten ++ wrCells ⟨k, s⟩))
    (hat : vw.ownBlock = some g ∨ g = w3.heap.size + 1) :
    let w5 := w4.setCell ⟨p, 1, none⟩ (.slice (some ⟨g, 0, none⟩) (S.way.length + 1) cap)
    let w6 := w5.setCell ⟨gs, k * 386 + 385, none⟩ (.int .i64 ((S.way.length : Int) + 1))
    HasD w6 p gs (.slice (some ⟨g, 0, none⟩) (S.way.length + 1) cap) { S with way := S.way ++ [⟨k, s⟩] } ∧ Fr w w6 (fpD p gs vw) ∧ (vw.ownBlock = some g ∨ w.heap.size ≤ g) := by
  intro w5 w6
  have hgp : g ≠ p := by
    rintro rfl
    rcases hat with h | h
    · exact h3.ne2 h
    · have := h3.disk.lt; omega
  have hgs : g ≠ gs := by
    rintro rfl
    rcases hat with h | h
    · exact h3.ne3 h
    · have := h3.secs.lt; omega
  have hf6 : Fr w w6 (fpD p gs vw) := by
    have a1 : Fr w w3 (fpD p gs vw) := (hf1.mono (fq := fpD p gs vw) (by simp [fpD])).trans hf3 (by simp)
    have a2 : Fr w w4 (fpD p gs vw) := a1.trans hf4 (by intro b hb _; simp at hb; simp [fpD, hb])
    exact (a2.setCell (p := ⟨p, 1, none⟩) (.inl (by simp [fpD])) _).setCell (p := ⟨gs, k * 386 + 385, none⟩) (.inl (by simp [fpD])) _
  refine ⟨⟨?_, ?_, ?_, h3.ne1, ?_, ?_, ?_⟩, hf6, ?_⟩
  · have := (hp.set_ 1 (.slice (some ⟨g, 0, none⟩) (S.way.length + 1) cap)).far (p := ⟨gs, k * 386 + 385, none⟩) h3.ne1 (.int .i64 ((S.way.length : Int) + 1))
    exact this
  · have := (hq.far (p := ⟨p, 1, none⟩) (Ne.symm h3.ne1) (.slice (some ⟨g, 0, none⟩) (S.way.length + 1) cap)).set_ (k * 386 + 385) (.int .i64 ((S.way.length + 1 : Nat) : Int))
    rw [sec_new S.secs (newest S.way) (newest (S.way ++ [⟨k, s⟩])) h3.wf.len k hk (S.way.length + 1) (by rw [newest_snoc, if_pos rfl]) (fun j hj => by rw [newest_snoc, if_neg (Ne.symm hj)])] at this
    exact this
  · have e : (wrRows (S.way ++ [⟨k, s⟩])).flatten = (wrRows S.way).flatten ++ wrCells ⟨k, s⟩ := by simp [wrRows]
    have a0 : Fr w4 w6 [p, gs] := ((Fr.refl w4 [p, gs]).setCell (p := ⟨p, 1, none⟩) (by simp) _).setCell (p := ⟨gs, k * 386 + 385, none⟩) (by simp) _
    have := a0.own ho (by intro b hb; cases hb; simp [hgp, hgs])
    simp only [List.length_append, List.length_cons, List.length_nil, Nat.zero_add]
    rw [e]
    exact this
  · simpa [Value.ownBlock] using hgp
  · simpa [Value.ownBlock] using hgs
  · refine ⟨h3.wf.len, ?_, h3.wf.few, h3.wf.left, ?_⟩
    · intro x hx
      rcases List.mem_append.1 hx with hx | hx
      · exact h3.wf.way x hx
      · simp at hx; subst hx; exact ⟨hk, hs⟩
    · simp only [List.length_append, List.length_cons, List.length_nil]; omega
  · rcases hat with h | h
    · exact .inl h
    · right; have := hf1.size; have := hf3.size; omega
theorem Sp.write_ok {S : Sp} {k : Nat} {s : List UInt8} (hk : k < S.secs.length) (hs : s.length = 384) (ho : S.on = true) (hl : S.left ≠ 1) :
    S.write k s = ({ S with left := S.left - 1, count := S.count + 1, way := S.way ++ [⟨k, s⟩] }, 0) := by
  unfold Sp.write
  rw [if_neg (by rintro (h | h); exact h ⟨by omega, by omega⟩; exact h hs), Sp.goes_more ho hl, if_pos rfl]
  rfl
set_option maxRecDepth 10000 in
set_option maxHeartbeats 1000000 in
theorem write_ok (p gs : Nat) (vw : Value) (S : Sp) (k : Nat) (s : ByteArray) (w : World) (h : HasD w p gs vw S) (hk : k < S.secs.length) (hs : s.size = 384) (ho : S.on = true) (hl : S.left ≠ 1) (hc : S.count ≤ 1048576) :
    Calls Tryd.prog 47 #[dptr p, .int .i64 (k : Int), .string s] w (DE w p gs vw (S.write k (sb s))) := by
  have hb : (k : Int) < (S.secs.length : Int) := by omega
  have H0 : (0 : Int) ≤ (k : Int) := by omega
  have hsz : (s.size : Int) = 384 := by omega
  have hway := h.wf.less
  have hzw := zeroWr
  have hbw := wrz_set
  rw [Sp.write_ok hk (by rw [sb_len]; exact hs) ho hl]
  have HS := hid hs
  clear hs
  unfold dptr
  go_enter Tryd.func47, Tryd.ntmps47
  go_wp2_with (first
    | (go_at_call 50; refine (has_yes _ p gs vw S _ h H0 hb).mono ?_; rintro e w1 ⟨rfl, rfl⟩)
    | (go_at_call 65; refine (goes_more p gs vw S _ h ho hl (by omega)).mono ?_; rintro e w1 ⟨rfl, h1, hf1⟩; have hn := heap_alloc_new w1 (.cells (wrz 0).toArray 98); have HN := hid hn; clear hn)
    | (with_reducible refine wpList_store_row rfl 98 (.tmp 8) (.tmp 26) rfl w1.heap.size (wrz (k : Int)).toArray rfl rfl 98 (wrz 0).toArray HN.out (by simp [sizeWr, wrz_len]) (by simp [wrz_len]) (all_oneCell_toArray (wrz_one _)) ?_; have hn := setRow_heap _ w1.heap.size _ (wrz (k : Int)).toArray 98 (0, 0) HN.out; have HN2 := hid (row_of hn); clear hn)
    | (with_reducible refine wpl_copy_str rfl (.tmp 28) (.tmp 29) 96 9 rfl 5 Tryd.underlying96 sizeU8 w1.heap.size 1 384 384 rfl s rfl (wrz (k : Int)) 98 HN2.out ?_ (hid (by rw [HS.out]; exact Nat.le_refl _)) (hid (by rw [HS.out, wrz_len]; exact Nat.le_refl _)); intro w3 hr3 hg3))
  have hf3 : Fr w1 w3 [] := (((Fr.refl w1 []).alloc _).grown (grownBy_setRow _ w1.heap.size _) (by intro b hb; cases hb; exact .inr (Nat.le_refl _))).grown hg3 (by intro b hb; cases hb; exact .inr (Nat.le_refl _))
  have h3 := h1.fr hf3 (by simp)
  rw [wrz_copy k (sb s) (by rw [sb_len]; exact HS.out)] at hr3
  have hX : w3.rangeAt w1.heap.size 0 (wrCells ⟨k, sb s⟩) := fun j v hv => by rw [Nat.zero_add]; exact hr3.at_ j v hv
  have hlw : (wrCells ⟨k, sb s⟩).length = 385 := by simp [wrCells, bvs_len, sb_len, HS.out]
  have c31 := h3.c1
  refine wp_region_held_drew (S := fun w' => w'.rangeAt w1.heap.size 0 (wrCells ⟨k, sb s⟩)) (by kernel_rfl) hX (fun hH => ?_)
  refine wpAnyH_take (i := 0) (v := .pointer (some ⟨p, 0, none⟩)) rfl (by kernel_rfl) (by kernel_rfl) (by kernel_rfl) (fun _ _ _ h => h) (Or.inl ⟨by rfl, fun w' hw' => by go_simp⟩) hH ?_
  simp only [Act.put]
  refine wpAnyH_take (i := 1) (v := .pointer (some ⟨p, 0, none⟩)) rfl (by kernel_rfl) (by kernel_rfl) (by kernel_rfl) (fun _ _ _ h => h) (Or.inl ⟨by rfl, fun w' hw' => by go_simp⟩) hH ?_
  simp only [Act.put]
  refine wpAnyH_take (i := 2) (v := .pointer (some ⟨p, 0, none⟩)) rfl (by kernel_rfl) (by kernel_rfl) (by kernel_rfl) (fun _ _ _ h => h) (Or.inl ⟨by rfl, fun w' hw' => by go_simp⟩) hH ?_
  simp only [Act.put]
  refine wpAnyH_take (i := 3) (v := .pointer (some ⟨p, 1, none⟩)) rfl (by kernel_rfl) (by kernel_rfl) (by kernel_rfl) (fun _ _ _ h => h) (Or.inl ⟨by rfl, fun w' hw' => by go_simp⟩) hH ?_
  simp only [Act.put]
  refine wpAnyH_take (i := 5) (v := .agg (wrCells ⟨k, sb s⟩).toArray) rfl (by kernel_rfl) (by kernel_rfl) (by kernel_rfl) (fun _ _ _ h => h)
    (yieldsIf_load_mid (by rfl) 98 (.tmp 8) rfl w1.heap.size 0 rfl _ _ (fun _ hw => hw) Tryd.underlying98 rfl (by rw [hlw]; exact sizeWr)) hH ?_
  simp only [Act.put]
  obtain ⟨i0, hi, hz0, hz1, hz2⟩ := info_parts infoWr
  have hne : ∀ b ∈ fpD p gs vw, b ≠ w1.heap.size := fun b hb => by have := h1.lt b hb; omega
  have hnews : ∀ j u, (wrCells ⟨k, sb s⟩)[j]? = some u → (w3.drew.alloc (.cells (wrCells ⟨k, sb s⟩).toArray 98)).cell? ((⟨w3.heap.size, 0, none⟩ : Addr).add j) = some u := by
    have := World.news_of_block (heap_alloc_new w3.drew (.cells (wrCells ⟨k, sb s⟩).toArray 98))
    simpa using this
  refine wpAnyH_ready (rs := [4, 6]) (by kernel_rfl) (by simp) ?_
  refine AllReadyH.cons rfl (fun K hK => ?_) (AllReadyH.cons rfl (fun K hK => ?_) AllReadyH.nil)
  · go_simp
    refine hK.out _ _ hH (fun hH2 => ?_)
    refine wpAnyH_ready (rs := [6]) (by kernel_rfl) (by simp) ?_
    refine AllReadyH.cons rfl (fun K hK => ?_) AllReadyH.nil
    rw [if_pos (by rfl)]
    refine wp_slice1 78 98 (.tmp 36) rfl i0 _ 385 Tryd.underlying78 hi hz0 hz1 (by decide) (by decide) (wrCells ⟨k, sb s⟩) rfl hlw ?_
    simp only [Act.put]
    refine hK.out _ _ (World.rangeAt_alloc hH _) (fun hH3 => ?_)
    refine wpAnyH_ready (rs := [7]) (by kernel_rfl) (by simp) ?_
    refine AllReadyH.cons rfl (fun K hK => ?_) AllReadyH.nil
    refine step_append_lies _ rfl (.tmp 35) (.tmp 37) 78 rfl 0 98 i0 _ 385 392 Tryd.underlying78 hi hz0 hz1 hz2 (wrz_len 0) (by decide) vw S.way.length (wrRows S.way).flatten rfl ((h3.wrs.drew).alloc _) ⟨w3.heap.size, 0, none⟩ 1 1 (wrCells ⟨k, sb s⟩) rfl (by rw [hlw]) hnews (cells_one_wr _) (by decide) (le_maxLen (by omega)) (by omega) (Nat.zero_le _) (w3.heap.size + 1) (by simp) ?_
    intro g cap w4 ho4 hg4 hat hlt4
    obtain ⟨q1, q2, q3, q4⟩ := app_facts h3 hr3 hne hg4
    simp only [Act.put]
    refine hK.out _ _ q3 (fun hH4 => ?_)
    refine wpAnyH_take (i := 8) (v := .pointer (some ⟨p, 0, none⟩)) rfl (by kernel_rfl) (by kernel_rfl) (by kernel_rfl) (fun _ _ _ h => h) (Or.inl ⟨by rfl, fun w' hw' => by go_simp⟩) hH4 ?_
    simp only [Act.put]
    refine wpAnyH_take (i := 9) (v := .pointer (some ⟨p, 1, none⟩)) rfl (by kernel_rfl) (by kernel_rfl) (by kernel_rfl) (fun _ _ _ h => h) (Or.inl ⟨by rfl, fun w' hw' => by go_simp⟩) hH4 ?_
    simp only [Act.put]
    have c41 := q1.at_ 1 _ rfl
    have f41 := q1.frozen 1
    refine wpAnyH_ready (rs := [10]) (by kernel_rfl) (by simp) ?_
    refine AllReadyH.cons rfl (fun K hK => ?_) AllReadyH.nil
    go_simp
    have hH5 : (w4.setCell ⟨p, 1, none⟩ (.slice (some ⟨g, 0, none⟩) (S.way.length + 1) cap)).rangeAt w1.heap.size 0 (wrCells ⟨k, sb s⟩) := fun j v hv => by
      rw [World.cell?_setCell_far _ _ _ _ (hne p (by simp [fpD]))]
      exact q3 j v hv
    refine hK.out _ _ hH5 (fun hH6 => ?_)
    refine wpAnyH_done (by kernel_rfl) ?_ _
    have WE := hid (write_end (k := k) (s := sb s) hf1 hf3 h3 q4 (by rw [sb_len]; exact HS.out) hk (by show S.way.length < S.count + 1; omega) q1 q2 ho4 hat)
    have r1 := q1.set_ 1 (.slice (some ⟨g, 0, none⟩) (S.way.length + 1) cap)
    have r2 := q2.far (p := ⟨p, 1, none⟩) (Ne.symm h3.ne1) (.slice (some ⟨g, 0, none⟩) (S.way.length + 1) cap)
    have c50 := r1.at_ 0 _ rfl
    have c51 := r1.at_ 1 _ rfl
    have c5n := r2.at_ _ _ (sec_newest S.secs (newest S.way) h3.wf.len k hk)
    have f5n := r2.frozen (k * 386 + 385)
    generalize (w4.setCell ⟨p, 1, none⟩ (.slice (some ⟨g, 0, none⟩) (S.way.length + 1) cap)) = w5 at *
    clear hH hH2 hH3 hH4 hH5 hH6 q1 q2 q3 q4 r1 r2 c41 f41 ho4 hg4 c31 hX hr3 hf3
    go_wp2_with fail
    go_region
    go_wp2_with fail
    go_ret
    exact ⟨_, rfl, (WE.out.1).drew, (WE.out.2.1).drew, fun g' hg' => by cases hg'; exact WE.out.2.2⟩
  · rw [if_pos (by rfl)]
    refine wp_slice1 78 98 (.tmp 36) rfl i0 _ 385 Tryd.underlying78 hi hz0 hz1 (by decide) (by decide) (wrCells ⟨k, sb s⟩) rfl hlw ?_
    simp only [Act.put]
    refine hK.out _ _ (World.rangeAt_alloc hH _) (fun hH3 => ?_)
    have c32 : (w3.alloc (.cells (wrCells ⟨k, sb s⟩).toArray 98)).cell? ⟨p, 1, none⟩ = some vw := (World.cell?_alloc_lt _ _ _ h3.disk.lt).trans c31
    refine wpAnyH_ready (rs := [4]) (by kernel_rfl) (by simp) ?_
    refine AllReadyH.cons rfl (fun K hK => ?_) AllReadyH.nil
    go_simp
    refine hK.out _ _ hH3 (fun hH2 => ?_)
    refine wpAnyH_ready (rs := [7]) (by kernel_rfl) (by simp) ?_
    refine AllReadyH.cons rfl (fun K hK => ?_) AllReadyH.nil
    refine step_append_lies _ rfl (.tmp 35) (.tmp 37) 78 rfl 0 98 i0 _ 385 392 Tryd.underlying78 hi hz0 hz1 hz2 (wrz_len 0) (by decide) vw S.way.length (wrRows S.way).flatten rfl ((h3.wrs.drew).alloc _) ⟨w3.heap.size, 0, none⟩ 1 1 (wrCells ⟨k, sb s⟩) rfl (by rw [hlw]) hnews (cells_one_wr _) (by decide) (le_maxLen (by omega)) (by omega) (Nat.zero_le _) (w3.heap.size + 1) (by simp) ?_
    intro g cap w4 ho4 hg4 hat hlt4
    obtain ⟨q1, q2, q3, q4⟩ := app_facts h3 hr3 hne hg4
    simp only [Act.put]
    refine hK.out _ _ q3 (fun hH4 => ?_)
    refine wpAnyH_take (i := 8) (v := .pointer (some ⟨p, 0, none⟩)) rfl (by kernel_rfl) (by kernel_rfl) (by kernel_rfl) (fun _ _ _ h => h) (Or.inl ⟨by rfl, fun w' hw' => by go_simp⟩) hH4 ?_
    simp only [Act.put]
    refine wpAnyH_take (i := 9) (v := .pointer (some ⟨p, 1, none⟩)) rfl (by kernel_rfl) (by kernel_rfl) (by kernel_rfl) (fun _ _ _ h => h) (Or.inl ⟨by rfl, fun w' hw' => by go_simp⟩) hH4 ?_
    simp only [Act.put]
    have c41 := q1.at_ 1 _ rfl
    have f41 := q1.frozen 1
    refine wpAnyH_ready (rs := [10]) (by kernel_rfl) (by simp) ?_
    refine AllReadyH.cons rfl (fun K hK => ?_) AllReadyH.nil
    go_simp
    have hH5 : (w4.setCell ⟨p, 1, none⟩ (.slice (some ⟨g, 0, none⟩) (S.way.length + 1) cap)).rangeAt w1.heap.size 0 (wrCells ⟨k, sb s⟩) := fun j v hv => by
      rw [World.cell?_setCell_far _ _ _ _ (hne p (by simp [fpD]))]
      exact q3 j v hv
    refine hK.out _ _ hH5 (fun hH6 => ?_)
    refine wpAnyH_done (by kernel_rfl) ?_ _
    have WE := hid (write_end (k := k) (s := sb s) hf1 hf3 h3 q4 (by rw [sb_len]; exact HS.out) hk (by show S.way.length < S.count + 1; omega) q1 q2 ho4 hat)
    have r1 := q1.set_ 1 (.slice (some ⟨g, 0, none⟩) (S.way.length + 1) cap)
    have r2 := q2.far (p := ⟨p, 1, none⟩) (Ne.symm h3.ne1) (.slice (some ⟨g, 0, none⟩) (S.way.length + 1) cap)
    have c50 := r1.at_ 0 _ rfl
    have c51 := r1.at_ 1 _ rfl
    have c5n := r2.at_ _ _ (sec_newest S.secs (newest S.way) h3.wf.len k hk)
    have f5n := r2.frozen (k * 386 + 385)
    generalize (w4.setCell ⟨p, 1, none⟩ (.slice (some ⟨g, 0, none⟩) (S.way.length + 1) cap)) = w5 at *
    clear hH hH2 hH3 hH4 hH5 hH6 q1 q2 q3 q4 r1 r2 c41 f41 ho4 hg4 c31 c32 hX hr3 hf3
    go_wp2_with fail
    go_region
    go_wp2_with fail
    go_ret
    exact ⟨_, rfl, (WE.out.1).drew, (WE.out.2.1).drew, fun g' hg' => by cases hg'; exact WE.out.2.2⟩
end Go.Proofs.YtafbeepacncooaaDoor
/-
  The disk's calls, each in every state: Write, Flush, Start.
-/
namespace Go.Proofs.YtafbeepacncooaaDoor
open Go.RowKit

theorem DE.same {w : World} {p gs : Nat} {vw : Value} {S : Sp} {x : Int} (h : HasD w p gs vw S) : DE w p gs vw (S, x) (.returned (.int .i64 x)) w := ⟨vw, rfl, h, Fr.refl _ _, fun _ hg => .inl hg⟩
theorem DE.one {w w' : World} {p gs : Nat} {vw : Value} {S : Sp} {x : Int} (h : HasD w' p gs vw S) (hf : Fr w w' [p]) : DE w p gs vw (S, x) (.returned (.int .i64 x)) w' :=
  ⟨vw, rfl, h, hf.mono (by simp [fpD]), fun _ hg => .inl hg⟩
set_option maxRecDepth 10000 in
theorem write_arg (p gs : Nat) (vw : Value) (S : Sp) (i : Int) (s : ByteArray) (w : World) (h : HasD w p gs vw S) (hi : ¬ S.is i ∨ s.size ≠ 384) :
    Calls Tryd.prog 47 #[dptr p, .int .i64 i, .string s] w (DE w p gs vw (S, 1)) := by
  have HH := hid h
  by_cases h1 : S.is i
  · have hsz : ((s.size : Int) != 384) = true := by
      rcases hi with hi | hi
      · exact absurd h1 hi
      · exact bne_iff_ne.2 (by omega)
    obtain ⟨h2, h3⟩ := h1
    clear hi
    unfold dptr
    go_enter Tryd.func47, Tryd.ntmps47
    go_wp2_with (go_at_call 50; refine (has_yes _ p gs vw S _ h h2 h3).mono ?_; rintro e w1 ⟨rfl, rfl⟩)
    go_ret
    exact DE.same HH.out
  · clear hi
    unfold dptr
    go_enter Tryd.func47, Tryd.ntmps47
    go_wp2_with (go_at_call 50; refine (has_no _ p gs vw S _ h h1).mono ?_; rintro e w1 ⟨rfl, rfl⟩)
    go_ret
    exact DE.same HH.out
set_option maxRecDepth 10000 in
theorem write_down (p gs : Nat) (vw : Value) (S : Sp) (i : Int) (s : ByteArray) (w : World) (h : HasD w p gs vw S) (hi : S.is i) (hs : s.size = 384) (hc : S.count ≤ 1048576) (hg : S.goes.2 = 6) :
    Calls Tryd.prog 47 #[dptr p, .int .i64 i, .string s] w (DE w p gs vw (S.goes.1, 6)) := by
  have hsz : (s.size : Int) = 384 := by omega
  obtain ⟨h2, h3⟩ := hi
  have HG := goes_any p gs vw S w h (by omega)
  rw [hg] at HG
  have HGG := hid HG
  clear HG hg hs
  unfold dptr at *
  go_enter Tryd.func47, Tryd.ntmps47
  go_wp2_with (first
    | (go_at_call 50; refine (has_yes _ p gs vw S _ h h2 h3).mono ?_; rintro e w1 ⟨rfl, rfl⟩)
    | (go_at_call 65; refine HGG.out.mono ?_; rintro e w1 ⟨rfl, h1, hf1⟩; have H1 := hid h1; have HF1 := hid hf1; clear h1 hf1))
  go_ret
  exact DE.one H1.out HF1.out
theorem Sp.goes_cases (S : Sp) : S.goes.2 = 6 ∨ (S.on = true ∧ S.left ≠ 1 ∧ S.goes.2 = 0) := by
  cases ho : S.on with
  | false => exact .inl (by rw [Sp.goes_off ho])
  | true =>
    by_cases h1 : S.left = 1
    · exact .inl (by rw [Sp.goes_one ho h1])
    · exact .inr ⟨rfl, h1, by rw [Sp.goes_more ho h1]⟩
theorem Sp.goes_six {S : Sp} (h : S.goes.2 = 6) : S.goes = (S.goes.1, 6) := Prod.ext rfl h
theorem write_any (p gs : Nat) (vw : Value) (S : Sp) (i : Int) (s : ByteArray) (w : World) (h : HasD w p gs vw S) (hc : S.count ≤ 1048576) :
    Calls Tryd.prog 47 #[dptr p, .int .i64 i, .string s] w (DE w p gs vw (S.write i (sb s))) := by
  by_cases h1 : ¬ S.is i ∨ s.size ≠ 384
  · have e : S.write i (sb s) = (S, 1) := by unfold Sp.write; rw [if_pos (by rw [sb_len]; exact h1)]
    rw [e]
    exact write_arg p gs vw S i s w h h1
  · have h2 : S.is i := Classical.byContradiction fun h => h1 (.inl h)
    have h3 : s.size = 384 := Classical.byContradiction fun h => h1 (.inr h)
    rcases S.goes_cases with hg | ⟨ho, hl, _⟩
    · have e : S.write i (sb s) = (S.goes.1, 6) := by unfold Sp.write; rw [if_neg (by rw [sb_len]; exact h1), if_neg (by rw [hg]; decide), Sp.goes_six hg]
      rw [e]
      exact write_down p gs vw S i s w h h2 h3 hc hg
    · obtain ⟨k, rfl⟩ := Int.eq_ofNat_of_zero_le h2.1
      exact write_ok p gs vw S k s w h (by have := h2.2; omega) h3 ho hl hc
theorem flush_any (p gs : Nat) (vw : Value) (S : Sp) (w : World) (h : HasD w p gs vw S) (hc : S.count ≤ 1048576) :
    Calls Tryd.prog 49 #[dptr p] w (DE w p gs vw S.flush) := by
  have hway := h.wf.less
  rcases S.goes_cases with hg | ⟨ho, hl, _⟩
  · have e : S.flush = (S.goes.1, 6) := by unfold Sp.flush; rw [if_neg (by rw [hg]; decide), Sp.goes_six hg]
    rw [e]
    have HG := goes_any p gs vw S w h (by omega)
    rw [hg] at HG
    have HGG := hid HG
    clear HG hg e
    unfold dptr at *
    go_enter Tryd.func49, Tryd.ntmps49
    go_wp2_with (go_at_call 65; refine HGG.out.mono ?_; rintro e w1 ⟨rfl, h1, hf1⟩; have H1 := hid h1; have HF1 := hid hf1; clear h1 hf1)
    go_ret
    exact DE.one H1.out HF1.out
  · have e : S.flush = ({ S with left := S.left - 1, count := S.count + 1, secs := sett (fun _ => 384) S.way S.secs, way := [] }, 0) := by
      unfold Sp.flush
      rw [Sp.goes_more ho hl, if_pos rfl]
    rw [e]
    clear e
    unfold dptr
    go_enter Tryd.func49, Tryd.ntmps49
    go_wp2_with (first
      | (go_at_call 65; refine (goes_more p gs vw S _ h ho hl (by omega)).mono ?_; rintro e w1 ⟨rfl, h1, hf1⟩; have HF1 := hid hf1; clear hf1)
      | (go_at_call 54; refine (settF_calls p gs vw _ _ h1 (by show S.way.length ≤ _; omega)).mono ?_; rintro e w2 ⟨rfl, h2, hf2⟩; have H2 := hid h2; have HF2 := hid hf2; clear h2 hf2))
    go_ret
    exact ⟨_, rfl, H2.out, ((HF1.out.mono (by simp [fpD])).trans HF2.out (by intro b hb _; simp at hb; rcases hb with rfl | rfl <;> simp [fpD])), fun g hg => by simp [Value.ownBlock] at hg⟩
theorem on_put {w : World} {p gs : Nat} {vw : Value} {S : Sp} (h : HasD w p gs vw S) : HasD (w.setCell ⟨p, 2, none⟩ (.bool true)) p gs vw { S with on := true } ∧ Fr w (w.setCell ⟨p, 2, none⟩ (.bool true)) [p] := by
  have hf : Fr w (w.setCell ⟨p, 2, none⟩ (.bool true)) [p] := (Fr.refl w [p]).setCell (p := ⟨p, 2, none⟩) (by simp) _
  exact ⟨h.put (l := S.left) (c := S.count) hf (h.disk.set_ 2 _) h.wf.left h.wf.less, hf⟩
theorem start_any (p gs : Nat) (vw : Value) (S : Sp) (picks : List Int) (A : Option Addr) (c B : Nat) (w : World) (h : HasD w p gs vw S) (hc : S.count ≤ 1048576) (hr : Rd w B A (ints picks)) (hp : ∀ x ∈ picks, x ≤ 9223372036854775807) (hpn : picks.length ≤ 9223372036854775807) (hB : picks ≠ [] → ∀ g o, A = some ⟨g, o, none⟩ → g ≠ gs) :
    Calls Tryd.prog 30 #[dptr p, .slice A picks.length c] w (DE w p gs vw (S.start picks)) := by
  have hway := h.wf.less
  have hbox := Row.new w 30 #[.slice A picks.length c]
  have hfa : Fr w (w.alloc (.cells #[.slice A picks.length c] 30)) [] := (Fr.refl w []).alloc _
  have h1 := h.fr hfa (by simp)
  have c2 := h1.c2
  have c1 := h1.c1
  have hpl := h.disk.lt
  have hgl := h.secs.lt
  cases ho : S.on with
  | true =>
    have e : S.start picks = (S, 10) := by unfold Sp.start; rw [if_pos ho]
    rw [e]
    rw [ho] at c2
    have HO := hid ho
    have H1 := hid h1
    have HF := hid hfa
    clear e ho h1 hfa
    unfold dptr
    go_enter Tryd.func30, Tryd.ntmps30
    go_wp2_with fail
    go_ret
    exact ⟨vw, rfl, H1.out, HF.out.mono (by simp), fun _ hg => .inl hg⟩
  | false =>
    have e : S.start picks = ({ S with secs := sett (pickOf picks) S.way S.secs, way := [], on := true }, 0) := by unfold Sp.start; rw [if_neg (by simp [ho])]
    rw [e]
    rw [ho] at c2
    have HO := hid ho
    have H1 := hid h1
    have HF := hid hfa
    have HB := hid hbox
    have HR : Hid (Rd (w.alloc (.cells #[.slice A picks.length c] 30)) B A (ints picks)) := fun hne => by
      obtain ⟨g0, o0, e0, hg0, hc0⟩ := hr hne
      exact ⟨g0, o0, e0, hg0, fun j u hu => (World.cell?_alloc_lt _ _ _ (World.block_lt_of_cell? w _ (hc0 j u hu))).trans (hc0 j u hu)⟩
    clear e ho h1 hfa hbox hr
    unfold dptr
    go_enter Tryd.func30, Tryd.ntmps30
    go_wp2_with (go_at_call 54; refine (settP_calls p gs vw S _ H1.out (by omega) picks w.heap.size A c B HB.out HR.out hp hpn ⟨by omega, by omega⟩ hB).mono ?_; rintro e w2 ⟨rfl, h2, hf2⟩; have c22 := h2.c2; have f22 := h2.f 2; have HP := hid (on_put h2); have HF2 := hid hf2; clear h2 hf2)
    go_ret
    exact ⟨_, rfl, HP.out.1, (((HF.out.mono (fq := fpD p gs vw) (by simp)).trans HF2.out (by intro b hb _; simp at hb; rcases hb with rfl | rfl <;> simp [fpD])).trans HP.out.2 (by intro b hb _; simp at hb; subst hb; simp [fpD])), fun g hg => by simp [Value.ownBlock] at hg⟩
end Go.Proofs.YtafbeepacncooaaDoor
/-
  The walk of Rot.
-/
namespace Go.Proofs.YtafbeepacncooaaDoor
open Go.RowKit

theorem wrap8 (n : Nat) (h : n < 256) : IntKind.u8.wrap (n : Int) = n := by
  simp only [IntKind.wrap, IntKind.signed, IntKind.bits]
  simp
  omega
theorem xor_byte (x : UInt8) (m : Nat) (hm : m ≤ 255) : bits .xor .u8 (x.toNat : Int) (m : Int) = ((x ^^^ UInt8.ofNat m).toNat : Int) := by
  have e : ∀ z : BitVec 8, BitVec.ofInt IntKind.u8.bits (z.toNat : Int) = z := fun z => by
    show BitVec.ofInt 8 (z.toNat : Int) = z
    rw [BitVec.ofInt_natCast]; simp
  have hm' : (m : Int) = (((UInt8.ofNat m).toBitVec.toNat : Nat) : Int) := by
    have : (UInt8.ofNat m).toBitVec.toNat = m := by
      show (UInt8.ofNat m).toNat = m
      simp
      omega
    rw [this]
  show IntKind.u8.wrap ((BitVec.ofInt IntKind.u8.bits (x.toBitVec.toNat : Int) ^^^ BitVec.ofInt IntKind.u8.bits (m : Int)).toNat : Int) = _
  rw [hm', e, e]
  exact wrap8 _ (BitVec.isLt _)
theorem rot_end {w : World} {p gs : Nat} {vw : Value} {S : Sp} {k a m : Nat} (h : HasD w p gs vw S) (hk : k < S.secs.length) (ha : a < 384) (hm2 : m ≤ 255) (x : UInt8) (hx : x = S.secs[k].lasts[a]'(by rw [h.wf.len _ (List.getElem_mem hk)]; exact ha)) :
    let w2 := (w.setCell ⟨gs, k * 386 + a, none⟩ (.int .u8 (bits .xor .u8 (x.toNat : Int) (m : Int)))).setCell ⟨gs, k * 386 + 384, none⟩ (.bool true)
    HasD w2 p gs vw { S with secs := S.secs.modify k (fun s => turnS s a m) } ∧ Fr w w2 (fpD p gs vw) := by
  intro w2
  have hf : Fr w w2 [gs] := ((Fr.refl w [gs]).setCell (p := ⟨gs, k * 386 + a, none⟩) (by simp) _).setCell (p := ⟨gs, k * 386 + 384, none⟩) (by simp) _
  have hl := h.wf.len _ (List.getElem_mem hk)
  have r1 := h.secs.set_ (k * 386 + a) (bv (x ^^^ UInt8.ofNat m))
  rw [sec_turn S.secs (newest S.way) h.wf.len k hk a ha] at r1
  have hl2 := set_wf S.secs h.wf.len k ⟨S.secs[k].lasts.set a (x ^^^ UInt8.ofNat m), S.secs[k].marked⟩ (by simpa using hl)
  have hk2 : k < (S.secs.set k ⟨S.secs[k].lasts.set a (x ^^^ UInt8.ofNat m), S.secs[k].marked⟩).length := by simpa using hk
  have r2 := r1.set_ (k * 386 + 384) (.bool true)
  rw [sec_mark _ (newest S.way) hl2 k hk2 true] at r2
  have e : S.secs.modify k (fun s => turnS s a m) = S.secs.set k ⟨S.secs[k].lasts.set a (x ^^^ UInt8.ofNat m), true⟩ := by
    apply List.ext_getElem?
    intro j
    rw [List.getElem?_modify, List.getElem?_set]
    by_cases hj : k = j
    · subst hj
      simp [hk, turnS, hx, hl, ha]
    · simp [hj]
  have ew : Value.int .u8 (bits .xor .u8 (x.toNat : Int) (m : Int)) = bv (x ^^^ UInt8.ofNat m) := by rw [xor_byte x m hm2]; rfl
  rw [e]
  refine ⟨⟨by simpa using hf.row h.disk (by simpa using h.ne1), ?_, hf.own h.wrs (by intro g hg; simp; rintro rfl; exact h.ne3 hg), ?_, h.ne2, h.ne3, ?_⟩, hf.mono (by simp [fpD])⟩
  · show Row ((w.setCell _ (Value.int .u8 (bits .xor .u8 (x.toNat : Int) (m : Int)))).setCell _ _) _ _ _
    rw [ew]
    simpa using r2
  · exact h.ne1
  · refine ⟨set_wf S.secs h.wf.len k _ (by simpa using hl), ?_, by simpa using h.wf.few, h.wf.left, h.wf.less⟩
    intro y hy
    simpa using h.wf.way y hy
set_option maxRecDepth 10000 in
set_option maxHeartbeats 400000 in
theorem rot_ok (p gs : Nat) (vw : Value) (S : Sp) (k a m : Nat) (w : World) (h : HasD w p gs vw S) (hk : k < S.secs.length) (ha : a < 384) (hm : 1 ≤ m) (hm2 : m ≤ 255) (hn : newest S.way k = 0) (hmk : S.secs[k].marked = false) :
    Calls Tryd.prog 31 #[dptr p, .int .i64 (k : Int), .int .i64 (a : Int), .int .i64 (m : Int)] w (DE w p gs vw ({ S with secs := S.secs.modify k (fun s => turnS s a m) }, 0)) := by
  have hb : (k : Int) < (S.secs.length : Int) := by omega
  have H0 : (0 : Int) ≤ (k : Int) := by omega
  have c0 := h.c0
  have hl := h.wf.len _ (List.getElem_mem hk)
  have cn := h.secs.at_ (k * 386 + 385) _ (sec_newest S.secs (newest S.way) h.wf.len k hk)
  have cm := h.secs.at_ (k * 386 + 384) _ (sec_marked S.secs (newest S.way) h.wf.len k hk)
  have cb := h.secs.at_ (k * 386 + a) _ ((sec_byte S.secs (newest S.way) h.wf.len k a hk ha).trans (by rw [bvs, List.getElem?_map, List.getElem?_eq_getElem (by omega)]; rfl : _ = some (bv (S.secs[k].lasts[a]'(by omega)))))
  have fb := h.secs.frozen (k * 386 + a)
  have fm := h.secs.frozen (k * 386 + 384)
  rw [hn] at cn
  rw [hmk] at cm
  obtain ⟨x, hx⟩ : ∃ x, x = S.secs[k].lasts[a]'(by omega) := ⟨_, rfl⟩
  rw [← hx] at cb
  have hx1 : x.toNat < 256 := UInt8.toNat_lt x
  have HE := hid (rot_end h hk ha hm2 x hx)
  clear hx hn
  unfold bv at cb
  unfold dptr
  go_enter Tryd.func31, Tryd.ntmps31
  go_wp2_with (go_at_call 50; refine (has_yes _ p gs vw S _ h H0 hb).mono ?_; rintro e w1 ⟨rfl, rfl⟩)
  go_region
  go_wp2_with fail
  go_ret
  exact ⟨vw, rfl, HE.out.1.drew, HE.out.2.drew, fun _ hg => .inl hg⟩
/-- Rot refuses -/
def rotBad (S : Sp) (i a m : Int) : Prop := ¬ S.is i ∨ a < 0 ∨ 384 ≤ a ∨ m < 1 ∨ 255 < m
set_option maxRecDepth 10000 in
set_option maxHeartbeats 400000 in
theorem rot_bad (p gs : Nat) (vw : Value) (S : Sp) (i a m : Int) (w : World) (h : HasD w p gs vw S) (hb : rotBad S i a m) :
    Calls Tryd.prog 31 #[dptr p, .int .i64 i, .int .i64 a, .int .i64 m] w (DE w p gs vw (S, 1)) := by
  have HH := hid h
  by_cases hi : S.is i
  · obtain ⟨h2, h3⟩ := hi
    have hq : (decide (a < 0) || decide (384 ≤ a) || decide (m < 1) || decide (255 < m)) = true := by
      rcases hb with hb | hb | hb | hb | hb
      · exact absurd ⟨h2, h3⟩ hb
      · simp [hb]
      · simp [hb]
      · simp [hb]
      · simp [hb]
    clear hb
    unfold dptr
    go_enter Tryd.func31, Tryd.ntmps31
    go_wp2_with (go_at_call 50; refine (has_yes _ p gs vw S _ h h2 h3).mono ?_; rintro e w1 ⟨rfl, rfl⟩)
    all_goals (go_ret; exact DE.same HH.out)
  · clear hb
    unfold dptr
    go_enter Tryd.func31, Tryd.ntmps31
    go_wp2_with (go_at_call 50; refine (has_no _ p gs vw S _ h hi).mono ?_; rintro e w1 ⟨rfl, rfl⟩)
    go_ret
    exact DE.same HH.out
set_option maxRecDepth 10000 in
set_option maxHeartbeats 400000 in
theorem rot_busy (p gs : Nat) (vw : Value) (S : Sp) (k : Nat) (a m : Int) (w : World) (h : HasD w p gs vw S) (hk : k < S.secs.length) (ha : 0 ≤ a) (ha2 : a < 384) (hm : 1 ≤ m) (hm2 : m ≤ 255) (hn : newest S.way k ≠ 0) :
    Calls Tryd.prog 31 #[dptr p, .int .i64 (k : Int), .int .i64 a, .int .i64 m] w (DE w p gs vw (S, 10)) := by
  have hb : (k : Int) < (S.secs.length : Int) := by omega
  have H0 : (0 : Int) ≤ (k : Int) := by omega
  have c0 := h.c0
  have cn := h.secs.at_ (k * 386 + 385) _ (sec_newest S.secs (newest S.way) h.wf.len k hk)
  have hn1 : 0 < ((newest S.way k : Nat) : Int) := by omega
  have HH := hid h
  clear hn
  unfold dptr
  go_enter Tryd.func31, Tryd.ntmps31
  go_wp2_with (go_at_call 50; refine (has_yes _ p gs vw S _ h H0 hb).mono ?_; rintro e w1 ⟨rfl, rfl⟩)
  go_ret
  exact DE.same HH.out
set_option maxRecDepth 10000 in
set_option maxHeartbeats 400000 in
theorem rot_twice (p gs : Nat) (vw : Value) (S : Sp) (k : Nat) (a m : Int) (w : World) (h : HasD w p gs vw S) (hk : k < S.secs.length) (ha : 0 ≤ a) (ha2 : a < 384) (hm : 1 ≤ m) (hm2 : m ≤ 255) (hn : newest S.way k = 0) (hmk : S.secs[k].marked = true) :
    Calls Tryd.prog 31 #[dptr p, .int .i64 (k : Int), .int .i64 a, .int .i64 m] w (DE w p gs vw (S, 7)) := by
  have hb : (k : Int) < (S.secs.length : Int) := by omega
  have H0 : (0 : Int) ≤ (k : Int) := by omega
  have c0 := h.c0
  have cn := h.secs.at_ (k * 386 + 385) _ (sec_newest S.secs (newest S.way) h.wf.len k hk)
  have cm := h.secs.at_ (k * 386 + 384) _ (sec_marked S.secs (newest S.way) h.wf.len k hk)
  rw [hn] at cn
  rw [hmk] at cm
  have HH := hid h
  clear hn hmk
  unfold dptr
  go_enter Tryd.func31, Tryd.ntmps31
  go_wp2_with (go_at_call 50; refine (has_yes _ p gs vw S _ h H0 hb).mono ?_; rintro e w1 ⟨rfl, rfl⟩)
  go_ret
  exact DE.same HH.out
theorem rot_any (p gs : Nat) (vw : Value) (S : Sp) (i a m : Int) (w : World) (h : HasD w p gs vw S) :
    Calls Tryd.prog 31 #[dptr p, .int .i64 i, .int .i64 a, .int .i64 m] w (DE w p gs vw (S.rot i a m)) := by
  by_cases hb : rotBad S i a m
  · have e : S.rot i a m = (S, 1) := by unfold Sp.rot; exact if_pos hb
    rw [e]
    exact rot_bad p gs vw S i a m w h hb
  · have hi : S.is i := Classical.byContradiction fun h => hb (.inl h)
    have hb2 : 0 ≤ a ∧ a < 384 ∧ 1 ≤ m ∧ m ≤ 255 := by
      unfold rotBad at hb
      omega
    obtain ⟨b1, b2, b3, b4⟩ := hb2
    obtain ⟨k, rfl⟩ := Int.eq_ofNat_of_zero_le hi.1
    have hk : k < S.secs.length := by have := hi.2; omega
    have eb : S.rot k a m = if newest S.way k ≠ 0 then (S, 10) else if S.secs[k].marked = true then (S, 7) else ({ S with secs := S.secs.modify k (fun s => turnS s a.toNat m.toNat) }, 0) := by
      unfold Sp.rot
      unfold rotBad at hb
      rw [if_neg hb]
      simp [hk]
    rw [eb]
    by_cases hn : newest S.way k = 0
    · rw [if_neg (by simp [hn])]
      cases hmk : S.secs[k].marked with
      | true =>
        rw [if_pos rfl]
        exact rot_twice p gs vw S k a m w h hk b1 b2 b3 b4 hn hmk
      | false =>
        rw [if_neg (by simp)]
        obtain ⟨a', rfl⟩ := Int.eq_ofNat_of_zero_le b1
        obtain ⟨m', rfl⟩ := Int.eq_ofNat_of_zero_le (show 0 ≤ m by omega)
        exact rot_ok p gs vw S k a' m' w h hk (by omega) (by omega) (by omega) hn hmk
    · rw [if_pos hn]
      exact rot_busy p gs vw S k a m w h hk b1 b2 b3 b4 hn
/-! ### Read and Lasts, in every state -/
theorem read_any (p gs : Nat) (vw : Value) (S : Sp) (i : Int) (w : World) (h : HasD w p gs vw S) (hc : S.count ≤ 1048576) :
    Calls Tryd.prog 26 #[dptr p, .int .i64 i] w fun e w' => TN (S.read i) e ∧ ∃ n, w' = w.drewN n := by
  have hway := h.wf.less
  by_cases hi : S.is i
  · obtain ⟨k, rfl⟩ := Int.eq_ofNat_of_zero_le hi.1
    have hk : k < S.secs.length := by have := hi.2; omega
    cases ho : S.on with
    | false =>
      have e : S.read k = ([], 6) := by unfold Sp.read; rw [if_neg (fun hn => hn hi), if_pos ho]
      rw [e]
      refine (read_off p gs vw S k w h hi.1 hi.2 ho).mono ?_
      rintro e w' ⟨h1, rfl⟩
      exact ⟨h1, 0, rfl⟩
    | true =>
      have e : S.read k = (lastw S.way k S.secs[k].lasts, 0) := by
        unfold Sp.read; rw [if_neg (fun hn => hn hi), if_neg (by simp [ho])]; simp [hk]
      rw [e]
      rcases newest_get S.way k S.secs[k].lasts with ⟨h1, h2, _⟩ | ⟨j, h1, hj, _, h2⟩
      · rw [h2]
        refine (read_old p gs vw S k w h hk ho h1).mono ?_
        rintro e w' ⟨h1, rfl⟩
        exact ⟨h1, 0, rfl⟩
      · obtain ⟨g, c, hv, _, _⟩ := h.wrShape (by omega)
        rw [← h2]
        exact read_new p gs vw S k j g c w h hk ho h1 hj hv (by omega)
  · have e : S.read i = ([], 1) := by unfold Sp.read; rw [if_pos hi]
    rw [e]
    refine (read_no p gs vw S i w h hi).mono ?_
    rintro e w' ⟨h1, rfl⟩
    exact ⟨h1, 0, rfl⟩
end Go.Proofs.YtafbeepacncooaaDoor
/-
  The walks of New, of the calls of a disk that is not there, of sector, Kept and Mix.
-/
namespace Go.Proofs.YtafbeepacncooaaDoor
open Go.RowKit

def zsec : List Value := secCells sec0 0
theorem zsec_len : zsec.length = 386 := secCells_len _ _ sec0_len
theorem infoSec : (Tryd.prog.info? 95).map (fun i => (i.zero, i.size, i.bytes)) = some (some (.agg zsec.toArray), 386, 400) := by kernel_rfl
theorem rows0 (n : Nat) : secRows (List.replicate n sec0) (newest []) = List.replicate n zsec := by
  apply List.ext_getElem?
  intro j
  simp only [secRows, List.getElem?_mapIdx, List.getElem?_replicate]
  split <;> rfl
theorem mk0_wf (n : Nat) (h : n ≤ 64) : (Sp.mk0 n).WF :=
  ⟨by intro s hs; rw [List.eq_of_mem_replicate hs]; exact sec0_len, by simp [Sp.mk0], by simpa [Sp.mk0] using h, by simp [Sp.mk0], by simp [Sp.mk0]⟩
/-- a new disk, and no error -/
def NewD (w : World) (n : Nat) (e : Ending) (w' : World) : Prop :=
  ∃ p gs, e = .returned (.tuple #[dptr p, .int .i64 0]) ∧ HasD w' p gs (.slice none 0 0) (Sp.mk0 n) ∧ Fr w w' [] ∧ w.heap.size ≤ p ∧ w.heap.size ≤ gs
set_option maxRecDepth 10000 in
theorem new_yes (n : Nat) (w : World) (h1 : 1 ≤ n) (h2 : n ≤ 64) :
    Calls Tryd.prog 24 #[.int .i64 (n : Int)] w (NewD w n) := by
  obtain ⟨i0, hi, hz0, hz1, hz2⟩ := info_parts infoSec
  have b1 : Hid ((n : Int) = (n : Int)) := hid rfl
  have b2 : Hid (i0.bytes * n ≤ 281474976710656) := hid (by rw [hz2]; omega)
  have b3 : Hid (n ≤ maxLen) := hid (le_maxLen (by omega))
  have hz3 : i0.size = zsec.length := by rw [hz1, zsec_len]
  have HZ := hid hz3
  clear hz3 hz1 hz2
  go_enter Tryd.func24, Tryd.ntmps24
  go_wp2_with (with_reducible refine wpl_make_big rfl (.tmp 10) (.tmp 10) 77 rfl 95 i0 (.agg zsec.toArray) zsec Tryd.underlying77 hi hz0 HZ.out rfl (by rw [zsec_len]; decide) .i64 .i64 n n n rfl rfl ?_ b1 b1 b2 b3; intro g w1 hg hr hgr)
  go_ret2
  have hf : Fr w w1 [] := (Fr.refl w []).grown hgr (by intro k hk; cases hk)
  refine ⟨w1.heap.size, g, rfl, ⟨?_, ?_, World.ownsRow_nil _ _ _ _, ?_, by simp [Value.ownBlock], by simp [Value.ownBlock], mk0_wf n h2⟩, hf.alloc _, hf.size, Nat.le_of_eq hg.out.symm⟩
  · have := Row.new w1 80 #[.slice (some ⟨g, 0, none⟩) n n, .slice none 0 0, .bool true, .int .i64 0, .int .i64 0]
    simpa [Sp.mk0] using this
  · have := hr.alloc (.cells #[.slice (some ⟨g, 0, none⟩) n n, .slice none 0 0, .bool true, .int .i64 0, .int .i64 0] 80)
    rw [← rows0] at this
    exact this
  · have := hr.lt; omega
/-! ### a disk that is not there -/
/-! ### sector, Kept, Mix -/
end Go.Proofs.YtafbeepacncooaaDoor
/-
  The disk's calls, as the laws call them: a disk of the law's own, all older memory as it was.
-/
namespace Go.Proofs.YtafbeepacncooaaDoor
open Go.RowKit

/-- a disk S at p, all of its blocks from B on; below B the world is as w0 -/
def Dk (B : Nat) (w0 w : World) (p gs : Nat) (S : Sp) : Prop := ∃ vw, HasD w p gs vw S ∧ (∀ b ∈ fpD p gs vw, B ≤ b) ∧ Below B w0 w ∧ B ≤ w.heap.size
/-- an answer, and the disk -/
def DP (B : Nat) (w0 : World) (p gs : Nat) (S' : Sp) (x : Int) (e : Ending) (w' : World) : Prop := e = .returned (.int .i64 x) ∧ Dk B w0 w' p gs S'
section
variable {B : Nat} {w0 w w' : World} {p gs : Nat} {S S' : Sp}
theorem Dk.below (h : Dk B w0 w p gs S) : Below B w0 w := by obtain ⟨_, _, _, h, _⟩ := h; exact h
theorem Dk.wf (h : Dk B w0 w p gs S) : S.WF := by obtain ⟨_, h, _⟩ := h; exact h.wf
theorem Dk.fr (h : Dk B w0 w p gs S) (hf : Fr w w' []) : Dk B w0 w' p gs S := by
  obtain ⟨vw, h1, h2, h3, h4⟩ := h
  exact ⟨vw, h1.fr hf (by simp), h2, h3.trans (hf.below (by simp) h4), Nat.le_trans h4 hf.size⟩
theorem Dk.alloc (h : Dk B w0 w p gs S) (o : Obj) : Dk B w0 (w.alloc o) p gs S := h.fr ((Fr.refl w []).alloc o)
theorem Dk.drewN (h : Dk B w0 w p gs S) (n : Nat) : Dk B w0 (w.drewN n) p gs S := h.fr ⟨rfl, rfl, rfl, Nat.le_refl _, fun _ _ _ => rfl⟩
theorem Dk.drew (h : Dk B w0 w p gs S) : Dk B w0 w.drew p gs S := h.drewN 1
theorem Dk.next {vw vw' : Value} (h1 : HasD w p gs vw S) (h2 : ∀ b ∈ fpD p gs vw, B ≤ b) (h3 : Below B w0 w) (h4 : B ≤ w.heap.size) (k1 : HasD w' p gs vw' S') (k2 : Fr w w' (fpD p gs vw)) (k3 : ∀ g, vw'.ownBlock = some g → vw.ownBlock = some g ∨ w.heap.size ≤ g) :
    Dk B w0 w' p gs S' := by
  refine ⟨vw', k1, ?_, h3.trans (k2.below h2 h4), Nat.le_trans h4 k2.size⟩
  intro b hb
  simp only [fpD, List.mem_cons, Option.mem_toList] at hb
  rcases hb with rfl | rfl | hb
  · exact h2 _ (by simp [fpD])
  · exact h2 _ (by simp [fpD])
  · rcases k3 b hb with h | h
    · exact h2 b (by simp [fpD, h])
    · omega
theorem Dk.call {P : Program} {f : FuncId} {args : Array Value} {r : Sp × Int} {x : Int} (h : Dk B w0 w p gs S) (hr : r = (S', x)) (H : ∀ vw, HasD w p gs vw S → Calls P f args w (DE w p gs vw r)) : Calls P f args w (DP B w0 p gs S' x) := by
  subst hr
  obtain ⟨vw, h1, h2, h3, h4⟩ := h
  refine (H vw h1).mono ?_
  rintro e w' ⟨vw', rfl, k1, k2, k3⟩
  exact ⟨rfl, Dk.next h1 h2 h3 h4 k1 k2 k3⟩
/-- a new disk -/
def DN (w : World) (n : Nat) (e : Ending) (w' : World) : Prop := ∃ p gs, e = .returned (.tuple #[dptr p, .int .i64 0]) ∧ Dk w.heap.size w w' p gs (Sp.mk0 n)
theorem dk_new (n : Nat) (w : World) (h1 : 1 ≤ n) (h2 : n ≤ 64) : Calls Tryd.prog 24 #[.int .i64 (n : Int)] w (DN w n) := by
  refine (new_yes n w h1 h2).mono ?_
  rintro e w' ⟨p, gs, rfl, k1, k2, k3, k4⟩
  refine ⟨p, gs, rfl, _, k1, ?_, k2.below (by simp) (Nat.le_refl _), k2.size⟩
  intro b hb
  simp [fpD, Value.ownBlock] at hb
  rcases hb with rfl | rfl <;> assumption
end
end Go.Proofs.YtafbeepacncooaaDoor
/-
  The walk of awake: the chapter's last example.
-/
namespace Go.Proofs.YtafbeepacncooaaDoor
open Go.RowKit

theorem Dk.frame {w w' : World} {p gs : Nat} {S : Sp} (h : Dk w.heap.size w w' p gs S) : Fr w w' [] := by
  have hb := h.below
  exact ⟨hb.os, hb.tape, hb.output, hb.size, fun k hk _ => hb.block k hk⟩
end Go.Proofs.YtafbeepacncooaaDoor
/-
  The walk of DiskTears.
-/
namespace Go.Proofs.YtafbeepacncooaaDoor
open Go.RowKit

/-- a sector that was wholly written -/
def full3 (l : List UInt8) : Sec := ⟨l, false⟩
theorem takeS_full (k l : List UInt8) (hk : k.length = 384) (hl : l.length = 384) : takeS3 (full3 k) l 384 = full3 l := by
  unfold takeS3 full3
  rw [List.take_of_length_le (Nat.le_of_eq hl), List.drop_eq_nil_of_le (Nat.le_of_eq hk)]
  simp
theorem Sp.flush_ok {S : Sp} (ho : S.on = true) (hl : S.left ≠ 1) : S.flush = ({ S with left := S.left - 1, count := S.count + 1, secs := sett (fun _ => 384) S.way S.secs, way := [] }, 0) := by
  unfold Sp.flush
  rw [Sp.goes_more ho hl, if_pos rfl]
theorem Sp.start_ok {S : Sp} (ho : S.on = false) (picks : List Int) : S.start picks = ({ S with secs := sett (pickOf picks) S.way S.secs, way := [], on := true }, 0) := by
  unfold Sp.start
  rw [if_neg (by simp [ho])]
theorem Sp.cut_ok {S : Sp} (ho : S.on = true) : S.cut = ({ S with on := false, left := 0 }, 0) := by
  unfold Sp.cut
  rw [if_neg (by simp [ho])]
section
variable {a c : List UInt8} (ha : a.length = 384) (hc : c.length = 384)
end

end Go.Proofs.YtafbeepacncooaaDoor
