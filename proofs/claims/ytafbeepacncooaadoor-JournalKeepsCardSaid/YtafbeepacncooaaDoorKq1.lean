/-
  What the law JournalKeeps holds: eight entries in a row.
-/
import Derived.Test.YtafbeepacncooaaDoorKq0
namespace Go.Proofs.YtafbeepacncooaaDoor
open Go.RowKit
set_option maxRecDepth 10000

section
variable {ops : Array Oper} {rest : List Oper} {o : Oper} {a : Act} {w : World} {Q : Exit → Act → World → Prop}
theorem wpl_nee13 (hw : Region.wanted o (yielded ops a.tmps) = true) (s t : En) (b : Bool) (x y : Operand) (ty : TypeId) (ho : o.op = .binOp .neq 28 x y ty)
    (hx : a.eval x = .agg s.cells) (hy : a.eval y = .agg t.cells) (hb : Hid (b = true ↔ s = t)) (h : wpList Tryd.prog ops Q rest (a.put o.dst (.bool (!b))) w) : wpList Tryd.prog ops Q (o :: rest) a w := by
  refine BigFrame.wpList_want hw fun K hK => ?_
  have hEQ := eqEn2 9998 s t b hb.out w
  have hEG := egEn
  generalize s.cells = Z at *
  generalize t.cells = Y at *
  unfold Oper.wp execOp
  simp [ho, hx, hy, eqGuard, hEG, binOp, Op.equal, Op.maxDepth, hEQ, Result.andThen]
  exact hK _ _ h
end

theorem yields_nee {ops : Array Oper} {S : World → Prop} {o : Oper} {a : Act} (hw : Region.wanted o (yielded ops a.tmps) = true) (s t : En) (b : Bool) (hb : Hid (b = true ↔ s = t)) (x y : Operand) (ty : TypeId) (ho : o.op = .binOp .neq 28 x y ty)
    (hx : a.eval x = .agg s.cells) (hy : a.eval y = .agg t.cells) : YieldsIf Tryd.prog ops S o (.bool (!b)) a :=
  .inl ⟨hw, fun w _ => by
    have hEG := egEn
    have hE := eqEn2 9998 s t b hb.out w
    generalize s.cells = Z at *
    generalize t.cells = Y at *
    unfold execOp
    simp [ho, hx, hy, eqGuard, hEG, binOp, Op.equal, Op.maxDepth, hE, Result.andThen]⟩
theorem act_one (x : ActJ) (A : Option Addr) (l cap : Nat) : (actC x A l cap).all (·.oneCell') = true := by simp [actC, En.cells, Value.oneCell']
/-- what was kept, as it lies -/
def kC (E : Nat → En) : List Value := ((List.range 8).map fun k => (E k).cells.toList).flatten
theorem kC_rows (E : Nat → En) : ∀ r ∈ (List.range 8).map (fun k => (E k).cells.toList), r.length = 9 := by
  intro r hr
  obtain ⟨k, _, rfl⟩ := List.mem_map.1 hr
  rfl
theorem kC_len (E : Nat → En) : (kC E).length = 72 := by
  unfold kC
  rw [flat_length 9 _ (kC_rows E)]
  simp
theorem kC_get (E : Nat → En) {k j : Nat} (hk : k < 8) (hj : j < 9) : (kC E)[k * 9 + j]? = (E k).cells.toList[j]? := by
  unfold kC
  rw [flat_get 9 _ k j (kC_rows E) hj]
  simp [hk]
theorem kC_put (E : Nat → En) {k : Nat} (hk : k < 8) (e : En) : splice (kC E) (k * 9) e.cells.toList = kC (setE E k e) := by
  have h := flat_splice 9 ((List.range 8).map fun k => (E k).cells.toList) k 0 e.cells.toList (by simpa using hk) (kC_rows E) (by show 0 + 9 ≤ 9; omega)
  have e2 : splice (((List.range 8).map fun k => (E k).cells.toList)[k]'(by simpa using hk)) 0 e.cells.toList = e.cells.toList := by
    unfold splice
    rw [List.take_zero, List.nil_append, List.drop_of_length_le, List.append_nil]
    simp [En.cells]
  rw [Nat.add_zero, e2] at h
  unfold kC
  rw [h]
  congr 1
  apply List.ext_getElem?
  intro i
  rw [List.getElem?_set]
  by_cases hi : i < 8
  · simp only [List.length_map, List.length_range, List.getElem?_map, List.getElem?_range hi, Option.map_some, hk, if_true]
    unfold setE
    by_cases hki : k = i
    · subst hki
      simp
    · rw [if_neg hki, if_neg (fun q => hki q.symm)]
  · rw [List.getElem?_eq_none (by simp; omega), List.getElem?_eq_none (by simp; omega)]
    split
    · omega
    · rfl
section
variable {w : World} {kb k : Nat} {E : Nat → En} {T : TypeId}
theorem kept_range (h : Row w kb T (kC E)) (hk : k < 8) : w.rangeAt kb (k * 9) (E k).cells.toList := fun j v hv => by
  have hj : j < 9 := (List.getElem?_eq_some_iff.1 hv).1
  rw [h.cell, kC_get E hk hj]
  exact hv
theorem kept_op (h : Row w kb T (kC E)) (hk : k < 8) : w.cell? ⟨kb, k * 9 + 1, none⟩ = some (.int .i64 (E k).opn) := kept_range h hk 1 _ rfl
theorem kept_there (h : Row w kb T (kC E)) (hk : k < 8) (e : En) : w.there kb (k * 9) e.cells.size := row_there h _ _ (by rw [kC_len]; show _ + 9 ≤ _; omega)
theorem kept_put (h : Row w kb T (kC E)) (hk : k < 8) (e : En) : Row (w.setCells kb (k * 9) e.cells.toList) kb T (kC (setE E k e)) ∧ w.grownBy (w.setCells kb (k * 9) e.cells.toList) (some kb) := by
  have h1 := row_cells h e.cells.toList (k * 9) (by rw [kC_len]; show _ + 9 ≤ _; omega)
  rw [kC_put E hk e] at h1
  exact h1
end
theorem dropE_set (E : Nat → En) (i : Nat) : dropE E i = setE E i en0 := rfl
/-- an act at hand, what was kept, the world -/
def KW (w0 W : World) (bw p gs xb kb : Nat) (v : Wd) (E : Nat → En) (C : Array Value) : Prop := Wj w0 W bw p gs v [xb, kb] ∧ Row W xb 32 C.toList ∧ Row W kb 29 (kC E)
theorem KW.new {w0 W W' : World} {bw p gs xb kb : Nat} {v : Wd} {E : Nat → En} {C : Array Value} (h : KW w0 W bw p gs xb kb v E C) (hb : Below W.heap.size W W') : KW w0 W' bw p gs xb kb v E C :=
  ⟨(h.1.new hb).1, h.2.1.below hb h.2.1.lt, h.2.2.below hb h.2.2.lt⟩
theorem KW.drew {w0 W : World} {bw p gs xb kb : Nat} {v : Wd} {E : Nat → En} {C : Array Value} (h : KW w0 W bw p gs xb kb v E C) : KW w0 W.drew bw p gs xb kb v E C := h.new ⟨rfl, rfl, rfl, Nat.le_refl _, fun _ _ => rfl⟩
theorem KW.put {w0 W : World} {bw p gs xb kb : Nat} {v : Wd} {E : Nat → En} {C : Array Value} (h : KW w0 W bw p gs xb kb v E C) (hx : xb ≠ kb) (h0 : w0.heap.size ≤ kb) {k : Nat} (hk : k < 8) (e : En) : KW w0 (W.setCells kb (k * 9) e.cells.toList) bw p gs xb kb v (setE E k e) C := by
  obtain ⟨h1, h2, h3⟩ := h
  obtain ⟨k1, k2⟩ := kept_put h3 hk e
  exact ⟨h1.put (by simp) h0 k2, (ek_put (G := [xb]) k2 (by simpa using h2.lt) (by simp; exact fun q => hx q.symm)).row h2 (by simp), k1⟩
/-- what is dropped ahead of an act -/
def KeptW (x : ActJ) (v : Wd) (E E1 : Nat → En) : Prop := (E1 = E ∨ (v.j.isSome = true ∧ ∃ i, E1 = dropE E i)) ∧ (v.j.isSome = true → (x.kind = 1 → Rt x.e → InW v.c x.e.opn → E1 (x.e.opn % 8).toNat = x.e ∨ E1 (x.e.opn % 8).toNat = en0) ∧ (x.kind = 2 → InW v.c x.n → E1 (x.n % 8).toNat = en0))
/-- what is known of the disk and what was kept -/
def InvE (E : Nat → En) (v : Wd) : Prop := InvW HereF GoneF v ∧ InvW (fun S J => HereA S J E) (fun S c => GoneA S c E) v
theorem c_of_inv {E : Nat → En} {v : Wd} (hi : InvE E v) (ha : v.j.isSome = true) : 0 ≤ v.c ∧ v.c ≤ 72057594037927927 := by
  obtain ⟨S, j, c⟩ := v
  cases j with
  | none => cases ha
  | some J =>
    obtain ⟨hc, h⟩ := hi.1
    have hc : c = J.c := hc
    have h : HereF S J := h
    subst hc
    exact ⟨h.wf.c0, h.wf.c1⟩
theorem keptW_no {x : ActJ} {v : Wd} {E : Nat → En} (hi : InvE E v) (hG : ¬ (v.j.isSome = true ∧ (x.kind = 2 ∧ 0 < x.n ∨ x.kind = 1 ∧ 0 < x.e.opn ∧ E (x.e.opn % 8).toNat ≠ x.e))) : KeptW x v E E := by
  refine ⟨.inl rfl, fun ha => ⟨fun k1 _ hw => .inl ?_, fun k2 hw => ?_⟩⟩
  · obtain ⟨h0, _⟩ := c_of_inv hi ha
    exact Classical.byContradiction fun hne => hG ⟨ha, .inr ⟨k1, by have := hw.1; omega, hne⟩⟩
  · obtain ⟨h0, _⟩ := c_of_inv hi ha
    exact absurd ⟨ha, .inl ⟨k2, by have := hw.1; omega⟩⟩ hG
theorem keptW_skip {x : ActJ} {v : Wd} {E : Nat → En} {m : Int} (h1 : x.kind = 1 → m = x.e.opn) (h2 : x.kind = 2 → m = x.n) (hn : ¬ (InW v.c m ∧ (x.kind = 2 ∨ Rt x.e))) : KeptW x v E E :=
  ⟨.inl rfl, fun _ => ⟨fun k1 hr hw => absurd ⟨by rw [h1 k1]; exact hw, .inr hr⟩ hn, fun k2 hw => absurd ⟨by rw [h2 k2]; exact hw, .inl k2⟩ hn⟩⟩
theorem keptW_drop {x : ActJ} {v : Wd} {E : Nat → En} {m : Int} (ha : v.j.isSome = true) (h1 : x.kind = 1 → m = x.e.opn) (h2 : x.kind = 2 → m = x.n) : KeptW x v E (dropE E (m % 8).toNat) :=
  ⟨.inr ⟨ha, _, rfl⟩, fun _ => ⟨fun k1 _ _ => .inr (by rw [h1 k1]; exact if_pos rfl), fun k2 _ => by rw [h2 k2]; exact if_pos rfl⟩⟩
/-- an act without a journal -/
theorem does_dead {x : ActJ} {v : Wd} {E : Nat → En} (hj : v.j = none) (hx : x.e.fits) (h : InvW (fun S J => HereA S J E) (fun S c => GoneA S c E) v) : InvW (fun S J => HereA S J E) (fun S c => GoneA S c E) (doesJ v x).1 := by
  by_cases k : x.kind = 1 ∨ x.kind = 2
  · obtain ⟨S, j, c⟩ := v
    have hj : j = none := hj
    subst hj
    have e : rawJ ⟨S, none, c⟩ x = (⟨S, none, c⟩, 0) := by
      unfold rawJ
      rw [if_neg (by omega), if_neg (by omega), if_neg (by omega), if_neg (by omega)]
    unfold doesJ
    rw [e]
    exact fix_none h.1 h.2.1 h.2.2
  · exact does_inv (step_a E x _ hx (fun k1 => absurd (.inl k1) k) (fun k2 => absurd (.inr k2) k)) h
theorem kept_does {x : ActJ} {v : Wd} {E E1 : Nat → En} (hx : x.e.fits) (hi : InvE E v) (hk : KeptW x v E E1) :
    InvE E1 (doesJ v x).1 ∧ (v.j.isSome = true → x.kind = 1 → (doesJ v x).2 = 0 → InvE (setE E1 (x.e.opn % 8).toNat x.e) (doesJ v x).1) := by
  have hF := does_inv (step_f x v.c hx) hi.1
  cases hj : v.j with
  | none =>
    have e1 : E1 = E := by
      rcases hk.1 with q | ⟨q, _⟩
      · exact q
      · rw [hj] at q; cases q
    subst e1
    exact ⟨⟨hF, does_dead hj hx hi.2⟩, fun q => by cases q⟩
  | some J =>
    have ha : v.j.isSome = true := by rw [hj]; rfl
    obtain ⟨hp, hv⟩ := hk.2 ha
    obtain ⟨k1, k2⟩ := keeps_act hj hi.2 hx (hk.1.imp id And.right) hp hv
    exact ⟨⟨hF, k1⟩, fun _ q1 q2 => ⟨hF, k2 q1 q2⟩⟩
theorem put_pos {x : ActJ} {v : Wd} {E : Nat → En} (hi : InvE E v) (ha : v.j.isSome = true) (k1 : x.kind = 1) (hy : (doesJ v x).2 = 0) : 0 < x.e.opn := by
  obtain ⟨S, j, c⟩ := v
  cases j with
  | none => cases ha
  | some J =>
    obtain ⟨_, h⟩ := hi.1
    have h : HereF S J := h
    have e1 : rawJ ⟨S, some J, c⟩ x = (⟨(putJ S J x.e).1, some (putJ S J x.e).2.1, c⟩, (putJ S J x.e).2.2) := by
      unfold rawJ callJ
      rw [if_neg (by omega), if_neg (by omega), if_neg (by omega), if_neg (by omega)]
      simp only
      rw [if_pos k1]
    have hy : (rawJ ⟨S, some J, c⟩ x).2 = 0 := hy
    rw [e1] at hy
    have h2 := (put_item h.wf hy).2.1
    have h0 := h.wf.c0
    have h3 : J.c < x.e.opn := h2.1
    omega
theorem drop_stale {v : Wd} {E : Nat → En} (hi : InvE E v) (ha : v.j.isSome = true) (i : Nat) : InvE (dropE E i) v := by
  cases hj : v.j with
  | none => rw [hj] at ha; cases ha
  | some J => exact ⟨hi.1, keeps_less hj hi.2 i⟩
theorem KW.c {w0 W : World} {bw p gs xb kb : Nat} {v : Wd} {E : Nat → En} {C : Array Value} (h : KW w0 W bw p gs xb kb v E C) : W.cell? ⟨bw, 2, none⟩ = some (.int .i64 v.c) := by
  obtain ⟨S, j, c⟩ := v
  cases j with
  | none => exact h.1.2.2.2.at_ 2 _ rfl
  | some J =>
    obtain ⟨_, _, jp, _, hr⟩ := h.1
    exact hr.at_ 2 _ rfl
/-- the journal at hand, what was kept -/
def LW (w0 W : World) (bw jp p gs kb : Nat) (S : Sp) (J : Jn) (E : Nat → En) : Prop := Jd w0 W jp p gs S J [bw, kb] ∧ Row W bw 37 (wC p (some jp) J.c) ∧ Row W kb 29 (kC E)
theorem LW.new {w0 W W' : World} {bw jp p gs kb : Nat} {S : Sp} {J : Jn} {E : Nat → En} (h : LW w0 W bw jp p gs kb S J E) (hb : Below W.heap.size W W') : LW w0 W' bw jp p gs kb S J E :=
  ⟨(h.1.new hb).1, h.2.1.below hb h.2.1.lt, h.2.2.below hb h.2.2.lt⟩
theorem LW.drew {w0 W : World} {bw jp p gs kb : Nat} {S : Sp} {J : Jn} {E : Nat → En} (h : LW w0 W bw jp p gs kb S J E) : LW w0 W.drew bw jp p gs kb S J E := h.new ⟨rfl, rfl, rfl, Nat.le_refl _, fun _ _ => rfl⟩
theorem LW.put {w0 W : World} {bw jp p gs kb : Nat} {S : Sp} {J : Jn} {E : Nat → En} (h : LW w0 W bw jp p gs kb S J E) (hx : bw ≠ kb) (h0 : w0.heap.size ≤ kb) {k : Nat} (hk : k < 8) (e : En) : LW w0 (W.setCells kb (k * 9) e.cells.toList) bw jp p gs kb S J (setE E k e) := by
  obtain ⟨h1, h2, h3⟩ := h
  obtain ⟨k1, k2⟩ := kept_put h3 hk e
  exact ⟨h1.put (by simp) h0 k2, (ek_put (G := [bw]) k2 (by simpa using h2.lt) (by simp; exact fun q => hx q.symm)).row h2 (by simp), k1⟩
/-- what the journal knows of what was kept -/
theorem mem_kept {E : Nat → En} {v : Wd} {J : Jn} (hi : InvE E v) (hj : v.j = some J) {k : Nat} (hk : k < 8) (hc : J.c < (E k).opn) : MemE (J.item (E k).opn) (E k) := by
  obtain ⟨S, j, c⟩ := v
  have hj : j = some J := hj
  subst hj
  have h : HereA S J E := hi.2.2
  exact h.mem k hk hc
theorem mod8 (n : Int) : (n % 8).toNat < 8 ∧ n % 8 = ((n % 8).toNat : Int) := by omega
/-! ### what an item, a stub are, in a row -/
theorem stSize13 : (Tryd.prog.info? 42).map (·.size) = some 5 := by kernel_rfl
theorem stC_one (s : St) : s.cells.all (·.oneCell') = true := by simp [St.cells, Value.oneCell']
theorem it_entry {W : World} {g : Nat} {T : TypeId} {k : Int} {s : St} {e : En} (h : Row W g T (It.cells ⟨k, s, e⟩).toList) : W.rangeAt g 6 e.cells.toList := fun j v hv => by
  rw [h.cell]
  show ((Value.int .i64 k :: s.cells.toList) ++ e.cells.toList)[6 + j]? = some v
  rw [List.getElem?_append_right (by show 6 ≤ 6 + j; omega), show 6 + j - (Value.int .i64 k :: s.cells.toList).length = j by show 6 + j - 6 = j; omega]
  exact hv
theorem it_stub {W : World} {g : Nat} {T : TypeId} {k : Int} {s : St} {e : En} (h : Row W g T (It.cells ⟨k, s, e⟩).toList) : W.rangeAt g 1 s.cells.toList := fun j v hv => by
  rw [h.cell]
  show (Value.int .i64 k :: (s.cells.toList ++ e.cells.toList))[1 + j]? = some v
  rw [Nat.add_comm, List.getElem?_cons_succ, List.getElem?_append_left (List.getElem?_eq_some_iff.1 hv).1]
  exact hv
theorem row_range0 {W : World} {g : Nat} {T : TypeId} {cs : List Value} (h : Row W g T cs) : W.rangeAt g 0 cs := fun j v hv => by
  rw [Nat.zero_add, h.cell]
  exact hv
end Go.Proofs.YtafbeepacncooaaDoor
