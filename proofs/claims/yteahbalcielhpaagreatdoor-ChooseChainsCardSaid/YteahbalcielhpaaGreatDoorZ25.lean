/-
  The laws' chain and log.
-/
import Derived.Test.YteahbalcielhpaaGreatDoorZ24
import Derived.Test.YteahbalcielhpaaGreatDoorZ20
import Derived.Great.BuildSlice
import Derived.Deep.AppendLies
namespace Go.Proofs.YteahbalcielhpaaGreatDoor
open Go.RowKit
set_option maxRecDepth 10000

/-- the cells of make([]T, n) -/
theorem madeCells_flat18 (z : List Value) (n : Nat) (hz : 0 < z.length) : (madeCells z.toArray (n * z.length)).toList = (List.replicate n z).flatten := by
  apply List.ext_getElem?
  intro j
  have hR : ∀ r ∈ List.replicate n z, r.length = z.length := by intro r hr; rw [List.eq_of_mem_replicate hr]
  have e : j = j / z.length * z.length + j % z.length := by rw [Nat.mul_comm]; exact (Nat.div_add_mod j z.length).symm
  have hm := Nat.mod_lt j hz
  rw [show (List.replicate n z).flatten[j]? = (List.replicate n z).flatten[j / z.length * z.length + j % z.length]? from by rw [← e], flatM_get z.length _ _ _ hR hm, List.getElem?_replicate]
  by_cases hj : j < n * z.length
  · have h1 : j / z.length < n := Nat.div_lt_of_lt_mul (by rw [Nat.mul_comm]; exact hj)
    rw [if_pos h1]
    simp [madeCells, hj, hm]
  · have h1 : ¬ j / z.length < n := by
      intro h1
      have := (Nat.div_lt_iff_lt_mul hz).1 h1
      omega
    rw [if_neg h1]
    simp [madeCells, hj]
/-- make([]T, n) of elements of more cells -/
theorem wpl_make_big18 {P : Program} {w : World} {ops : Array Oper} {rest : List Oper} {o : Oper} {a : Act} {Q : Exit → Act → World → Prop}
    (hg : o.guard = none) (l c : Operand) (t : TypeId) (hop : o.op = Op.makeSlice t l c)
    (e : TypeId) (i : TypeInfo) (z : Value) (zs : List Value) (h1 : P.underlying t = some (.slice e)) (h2 : P.info? e = some i) (h3 : i.zero = some z) (h4 : i.size = zs.length) (hz : z.cells = zs.toArray) (hpos : 0 < zs.length)
    (kl kc : IntKind) (L C : Int) (n : Nat) (hl : a.eval l = .int kl L) (hc : a.eval c = .int kc C)
    (hK : ∀ g w', Hid (g = w.heap.size) → Row w' g e (List.replicate n zs).flatten → w.grownBy w' none → wpList P ops Q rest (a.put o.dst (.slice (some ⟨g, 0, none⟩) n n)) w')
    (hL : Hid (L = (n : Int))) (hC : Hid (C = (n : Int))) (b2 : Hid (i.bytes * n ≤ 281474976710656)) (b3 : Hid (n ≤ maxLen)) :
    wpList P ops Q (o :: rest) a w := by
  refine wpList_make_full w hg l c t hop w.heap.size e i z zs.length h1 h2 h3 h4 kl kc L C n hl hc hL.out hC.out b2.out b3.out (Nat.le_refl _) fun w' hown hgr => hK _ w' (hid rfl) ?_ hgr
  rcases hown.2 with ⟨hv, _⟩ | ⟨g, cap, cur, hv, _, hh, _, _, h5, h6⟩
  · simp at hv
  · simp only [Value.slice.injEq, Option.some.injEq, Addr.mk.injEq, true_and, and_true] at hv
    obtain ⟨rfl, rfl⟩ := hv
    have : cur = ((List.replicate n zs).flatten).toArray := by
      apply Array.toList_inj.1
      have h7 : cur.toList.take (n * zs.length) = cur.toList := List.take_of_length_le (by simp only [Array.length_toList]; omega)
      rw [← h7, h6, hz, madeCells_flat18 zs n hpos]
    subst this
    exact hh
theorem own_grownM2 {w w' : World} {B : Nat} {e : TypeId} {size n : Nat} {v : Value} {xs : List Value} {x : Nat} (h : w.ownsRow B e size v n xs) (hg : w.grownBy w' (some x)) (hx : v.ownBlock ≠ some x) : w'.ownsRow B e size v n xs := by
  obtain ⟨h1, h2⟩ := h
  refine ⟨h1, ?_⟩
  rcases h2 with h2 | ⟨g, cap, cur, hv, hg', hh, r⟩
  · exact .inl h2
  · exact .inr ⟨g, cap, cur, hv, hg', by rw [hg.block g (Array.getElem?_eq_some_iff.1 hh).1 (by intro e; rw [hv] at hx; exact hx e)]; exact hh, r⟩
theorem own_cap {w : World} {B : Nat} {e : TypeId} {size n m c : Nat} {A : Option Addr} {xs : List Value} (h : w.ownsRow B e size (.slice A m c) n xs) : n ≤ c := by
  obtain ⟨A', c', e2, hc, -⟩ := own_rdM h
  cases e2
  exact hc
theorem own_frame {w w1 w' : World} {B : Nat} {e : TypeId} {size n : Nat} {v : Value} {xs : List Value} (h : w.ownsRow B e size v n xs) (hg : w1.grownBy w' v.ownBlock) (hs : B ≤ w1.heap.size) : Below B w1 w' :=
  (Below.refl _ _).grown hg hs (by
    intro k hk
    obtain ⟨h1, h2⟩ := h
    rcases h2 with ⟨rfl, h0⟩ | ⟨g, cap, cur, rfl, a, b, c, d, e1, f⟩
    · cases hk
    · cases hk; exact a)
theorem new_at (T : TypeId) (W : World) (X : List Value) : ∀ j u, X[j]? = some u → (W.alloc (.cells X.toArray T)).cell? ((⟨W.heap.size, 0, none⟩ : Addr).add j) = some u := fun j u hu => by
  have h := (Row.new W T X.toArray).cell j
  rw [add_lit, Nat.zero_add, h]
  simpa using hu
def chE : Nat → List En
  | 0 => []
  | 1 => [ent1]
  | _ => [ent1, ent2]
def chM : Nat → Mk
  | 0 => mk0
  | 1 => markE ent1
  | _ => markE ent2
theorem chain_step (k : Nat) (h : k < 2) : ∃ e : En, nextS9 (chM k) base18 = e ∧ e.fits ∧ markE e = chM (k + 1) ∧ chE (k + 1) = chE k ++ [e] := by
  match k, h with
  | 0, _ => exact ⟨ent1, rfl, ent1_fits, rfl, rfl⟩
  | 1, _ => exact ⟨ent2, rfl, ent2_fits, rfl, rfl⟩
theorem chE_len (k : Nat) : (chE k).length ≤ 2 := by
  match k with
  | 0 => decide
  | 1 => decide
  | _ + 2 => exact Nat.le_refl _
set_option maxHeartbeats 4000000 in
theorem chain_any (w : World) (hfd : Fd w) : Calls Tryz.prog 16 #[.int .i64 2] w (EQ18 w [ent1, ent2]) := by
  have HZE := hid esize
  have HZK := hid msize
  have HNX := hid (fun (m : Mk) (W : World) => next_any m base18 W (by decide))
  have HMK := hid (fun (e : En) (he : e.fits) (W : World) (hW : Below w.heap.size w W) => emark_any e he W (hfd.below hW hfd.1))
  have HCS := hid chain_step
  obtain ⟨i0, hi, hz0, hz1, hz2⟩ := info_parts infoEn
  have HO0 : Hid ((w.alloc (.cells #[] 35)).ownsRow w.heap.size 35 9 (.slice (some ⟨w.heap.size, 0, none⟩) 0 0) 0 []) := hid (own_emptyM (Row.new w _ _) (Nat.le_refl _))
  have HB0 : Hid (Below w.heap.size w (w.alloc (.cells #[] 35))) := hid ((Below.refl _ _).alloc (Nat.le_refl _) _)
  clear hfd
  go_enter Tryz.func16, Tryz.ntmps16
  go_wp2_with (first
      | ((with_reducible show wpList _ _ _ ({ dst := none, op := .store _ (.tmp 4) (.tmp 8), type := _, pos := _, after := _, guard := _ } :: _) _ _); refine wpl_store_st rfl (.tmp 4) (.tmp 8) rfl HZK.out (w.heap.size + 1) (#[.int .i64 0, .int .i64 0, .int .u64 0]) (mk0.cells) rfl rfl (by have h := Row.new (w.alloc (.cells #[] 35)) 27 #[.int .i64 0, .int .i64 0, .int .u64 0]; rw [World.size_alloc] at h; exact h) ?_ (hid (by first | rfl | simp)) (hid (by first | rfl | simp)) (hid (mcells_one _)); intro w1 hr1 hg; have RK := hid hr1; have HB1 := hid ((HB0.out.alloc HB0.out.size (.cells #[.int .i64 0, .int .i64 0, .int .u64 0] 27)).trans (below_grown hg (by omega) (by simp; omega))); have HO1 := hid (own_grownM2 (own_allocM HO0.out (.cells #[.int .i64 0, .int .i64 0, .int .u64 0] 27)) hg (by intro x; have : w.heap.size = w.heap.size + 1 := Option.some.inj x; omega)); clear hr1 hg))
  go_loopw [3, 5] (fun v i wr => ∃ k : Nat, k ≤ 2 ∧ i = .int .i64 (k : Int) ∧ ∃ g c, v = .slice (some ⟨g, 0, none⟩) (chE k).length c ∧ Hid (g ≠ w.heap.size + 1) ∧ Hid (g < wr.heap.size) ∧ Hid ((chE k).length ≤ c) ∧ Hid (wr.ownsRow w.heap.size 35 9 v (chE k).length (rws enC (chE k))) ∧ Hid (Row wr (w.heap.size + 1) 27 (chM k).cells.toList) ∧ Hid (Below w.heap.size w wr)) (fun _ i _ => 2 - (intOf i).toNat)
  case atStart => exact ⟨0, by omega, rfl, w.heap.size, 0, rfl, hid (by omega), hid (by have := RK.out.lt; omega), hid (Nat.le_refl _), HO1, RK, HB1⟩
  case round =>
    clear HO0 HB0 HO1 RK HB1
    obtain ⟨k, hk, rfl, g, c, rfl, HG, HGL, HC, HO, RK, HBE⟩ := hrel
    by_cases hlt : k < 2
    · have hi1 : (k : Int) < 2 := by omega
      have hi0 : (0 : Int) ≤ (k : Int) := by omega
      obtain ⟨e, h1, h2, h3, h4⟩ := HCS.out k hlt
      have HN1 := hid (HNX.out (chM k))
      rw [h1] at HN1
      have HM1 := hid (HMK.out e h2)
      rw [h3] at HM1
      have HEN := hid h4
      have HEL := hid (chE_len k)
      have HLT : Hid (w.heap.size + 1 < wr.heap.size) := hid RK.out.lt
      have HSZ : Hid (e.cells.size = 9) := hid rfl
      have HLN : Hid ((chE (k + 1)).length = (chE k).length + 1) := hid (by rw [h4, List.length_append]; rfl)
      obtain ⟨mk, hmk⟩ : ∃ x, chM (k + 1) = x := ⟨_, rfl⟩
      rw [hmk] at HM1
      have HMK2 := hid hmk
      clear hmk
      generalize chM k = m at *
      generalize chE k = es at *
      clear h1 h2 h3 h4 HCS HNX HMK
      go_wp2_with (first
        | ((with_reducible show wpList _ _ _ ({ dst := some 14, op := _, type := _, pos := _, after := _, guard := _ } :: _) _ _); refine wpList_load_row rfl 27 (.tmp 4) rfl (w.heap.size + 1) rfl 27 (m.cells) (0, 0) _ (Row.arr RK.out) Tryz.underlying27 rfl HZK.out ?_)
        | (go_at_call 28; refine (HN1.out _).mono ?_; rintro x w1 ⟨rfl, hb⟩; have HB1 := hid (HBE.out.trans (hb.mono HBE.out.size)); have RK1 := hid (RK.out.below hb RK.out.lt); have HO1 := hid (own_belowM HO.out hb); have HW1 := hid hb.size; clear hb)
        | ((with_reducible show wpList _ _ _ ({ dst := none, op := .store _ (.tmp 6) (.tmp 16), type := _, pos := _, after := _, guard := _ } :: _) _ _); refine wpl_store_st rfl (.tmp 6) (.tmp 16) rfl HZE.out (w1.heap.size) (#[.int .i64 0, .int .i64 0, .int .i64 0, .int .u64 0, .int .i64 0, .int .i64 0, .int .i64 0, .int .i64 0, .string ⟨#[]⟩]) (e.cells) rfl rfl (Row.new _ _ _) ?_ (hid (by first | rfl | simp)) (hid (by first | rfl | simp)) (hid (ecells_one _)); intro w2 hr2 hg; have RE := hid hr2; have hb : Below w1.heap.size w1 w2 := ((Below.refl _ _).alloc (Nat.le_refl _) (.cells #[.int .i64 0, .int .i64 0, .int .i64 0, .int .u64 0, .int .i64 0, .int .i64 0, .int .i64 0, .int .i64 0, .string ⟨#[]⟩] 35)).trans (below_grown hg (Nat.le_refl _) (by simp)); have HB2 := hid (HB1.out.trans (hb.mono HB1.out.size)); have RK2 := hid (RK1.out.below hb RK1.out.lt); have HO2 := hid (own_belowM HO1.out hb); have HW2 := hid (Nat.le_trans HW1.out hb.size); clear hr2 hg hb)
        | ((with_reducible show wpList _ _ _ ({ dst := some 17, op := _, type := _, pos := _, after := _, guard := _ } :: _) _ _); refine wpList_load_row rfl 35 (.tmp 6) rfl (w1.heap.size) rfl 35 (e.cells) (0, 0) _ (Row.arr RE.out) Tryz.underlying35 rfl (by rw [HSZ.out]; exact HZE.out) ?_)
        | (go_at_call 11; refine (HM1.out _ HB2.out).mono ?_; rintro x w3 ⟨rfl, hb⟩; have HB3 := hid (HB2.out.trans (hb.mono HB2.out.size)); have RK3 := hid (RK2.out.below hb RK2.out.lt); have HO3 := hid (own_belowM HO2.out hb); have HW3 := hid (Nat.le_trans HW2.out hb.size); have RE3 := hid (RE.out.below hb RE.out.lt); clear hb)
        | ((with_reducible show wpList _ _ _ ({ dst := none, op := .store _ (.tmp 4) (.tmp 18), type := _, pos := _, after := _, guard := _ } :: _) _ _); refine wpl_store_st rfl (.tmp 4) (.tmp 18) rfl HZK.out (w.heap.size + 1) (m.cells) (mk.cells) rfl rfl (RK3.out) ?_ (hid (by first | rfl | simp)) (hid (by first | rfl | simp)) (hid (mcells_one _)); intro w4 hr4 hg; have RK4 := hid hr4; have HB4 := hid (HB3.out.trans (below_grown hg (by omega) HB3.out.size)); have HO4 := hid (own_grownM2 HO3.out hg (by intro x; have := HG.out; have : g = w.heap.size + 1 := Option.some.inj x; omega)); have RE4 := hid (RE3.out.grown hg (by intro x; have := Option.some.inj x; have := HW1.out; have := HLT.out; omega)); have HW4 := hid (Nat.le_trans HW3.out hg.size); clear hr4 hg)
        | ((with_reducible show wpList _ _ _ ({ dst := some 20, op := _, type := _, pos := _, after := _, guard := _ } :: _) _ _); refine wpList_load_row rfl 35 (.tmp 6) rfl (w1.heap.size) rfl 35 (e.cells) (0, 0) _ (Row.arr RE4.out) Tryz.underlying35 rfl (by rw [HSZ.out]; exact HZE.out) ?_)
        | (refine wpl_slice1M rfl 28 35 (.tmp 20) rfl i0 _ 9 Tryz.underlying28 hi hz0 hz1 (by decide) (by decide) (Array.toList e.cells) rfl rfl ?_)
        | (refine wpList_append_lies _ rfl (.tmp 19) (.tmp 21) 28 rfl w.heap.size 35 i0 _ 9 80 Tryz.underlying28 hi hz0 hz1 hz2 rfl (by decide) (.slice (some ⟨g, 0, none⟩) es.length c) es.length _ rfl (own_allocM HO4.out _) ⟨w4.heap.size, 0, none⟩ 1 1 (Array.toList e.cells) rfl rfl (new_at 35 w4 (Array.toList e.cells)) (en_one e) (by decide) (le_maxLen (by have := HEL.out; omega)) (by have := HEL.out; omega) (by have := HB4.out.size; simp; omega) _ rfl ?_; intro g9 c9 w9 own9 hg9 hor9 hlt9; have HO9 := hid own9; have HGL9 := hid hlt9; have hc9 := own_cap own9; have HG9 : Hid (g9 ≠ w.heap.size + 1) := hid (by rcases hor9 with x | x; (have := HG.out; have := HGL.out; have : g = g9 := Option.some.inj x; omega); (have := HW4.out; have := HLT.out; simp at x; omega)); have RK9 := hid ((RK4.out.alloc (.cells (Array.toList e.cells).toArray 35)).grown hg9 (by intro x; have := HG.out; have : w.heap.size + 1 = g := Option.some.inj x; omega)); have HB9 := hid ((HB4.out.alloc HB4.out.size (.cells (Array.toList e.cells).toArray 35)).trans (own_frame HO4.out hg9 (by have := HB4.out.size; simp; omega))); clear own9 hg9 hor9 hlt9))
      go_roundw
      case rel =>
        refine ⟨k + 1, by omega, by go_num, g9, c9, by rw [HLN.out], HG9, HGL9, hid (by rw [HLN.out]; exact hc9), ?_, by rw [HMK2.out]; exact RK9, HB9⟩
        refine hid ?_
        rw [HEN.out, rws_app, rws_one, List.length_append]
        exact HO9.out
      case measure => simp [intOf]; omega
    · obtain rfl : k = 2 := by omega
      go_wp2_with fail
      go_ret
      exact ⟨_, c, rfl, HC.out, HBE.out, HO.out⟩
/-! ### log -/
abbrev itC (x : It) : List Value := x.cells.toList
/-- what log answers: its items lie in a row of their own -/
def LG18 (w : World) (who view : Int) (es : List En) (e : Ending) (w' : World) : Prop :=
  ∃ g, e = .returned (.agg ((logL who view es).cells ⟨none, 0, some ⟨g, 0, none⟩, 8⟩)) ∧ w.heap.size ≤ g ∧ Row w' g 40 (rws itC (logL who view es).xs) ∧ Below w.heap.size w w'
def itK (es : List En) (k : Nat) : List It := (es.take k).map holdC ++ List.replicate (8 - k) it0
theorem itK_len (es : List En) (k : Nat) (h : k ≤ es.length) (h8 : es.length ≤ 8) : (itK es k).length = 8 := by
  unfold itK
  rw [List.length_append, List.length_map, List.length_take, List.length_replicate]
  omega
theorem itK_end (who view : Int) (es : List En) : itK es es.length = (logL who view es).xs := by
  unfold itK
  rw [List.take_length]
  rfl
theorem rws_splice {α : Type} (C : α → List Value) (n : Nat) (hC : ∀ x, (C x).length = n) (l : List α) (k : Nat) (x : α) (h : k < l.length) : splice (rws C l) (k * n) (C x) = rws C (l.set k x) := by
  have hl := rws_len hC
  have e0 : l = l.take k ++ l[k] :: l.drop (k + 1) := by rw [List.getElem_cons_drop, List.take_append_drop]
  have e1 : l.set k x = l.take k ++ x :: l.drop (k + 1) := by rw [List.set_eq_take_append_cons_drop, if_pos h]
  have hk : (l.take k).length = k := by rw [List.length_take]; omega
  rw [e1]
  conv => lhs; rw [e0]
  have c1 : ∀ (y : α) (r : List α), rws C (y :: r) = C y ++ rws C r := fun y r => by simp [rws]
  rw [rws_app, rws_app, c1, c1]
  have h1 := hl (l.take k)
  rw [hk] at h1
  unfold splice
  rw [List.take_append_of_le_length (by omega), List.take_of_length_le (by omega)]
  congr 1
  congr 1
  rw [List.drop_append, List.drop_of_length_le (by rw [h1, hC]; omega), List.nil_append, List.drop_append, hC, hC, h1]
  rw [List.drop_of_length_le (by rw [hC]; omega), List.nil_append]
  rw [show k * n + n - k * n - n = 0 by omega]
  rfl
theorem itK_set (es : List En) (k : Nat) (h : k < es.length) (h8 : es.length ≤ 8) : (itK es k).set k (holdC es[k]) = itK es (k + 1) := by
  unfold itK
  have hl : ((es.take k).map holdC).length = k := by rw [List.length_map, List.length_take]; omega
  rw [List.set_append_right _ _ (by omega), hl, Nat.sub_self]
  obtain ⟨d, hd⟩ : ∃ d, 8 - k = d + 1 := ⟨7 - k, by omega⟩
  have hd2 : 8 - (k + 1) = d := by omega
  rw [hd, hd2, List.replicate_succ, List.set_cons_zero, List.take_succ_eq_append_getElem h, List.map_append, List.append_assoc]
  rfl
set_option maxHeartbeats 8000000 in
theorem log_any18 (who view : Int) (es : List En) (A : Option Addr) (n c B : Nat) (w : World) (hr : Rd w B A (rws enC es)) (hn : n = es.length) (hc : n ≤ c) (hB : B ≤ w.heap.size) (h8 : es.length ≤ 8) (hf : ∀ e ∈ es, e.fits ∧ Rt e) (hfd : Fd w) :
    Calls Tryz.prog 17 #[.int .i64 who, .int .i64 view, .slice A n c] w (LG18 w who view es) := by
  have hz := zero33
  have hzs := z33_size
  have hzn := z33_ne
  have HZS := hid mssize
  have HZE := hid esize
  have HZI := hid isize
  have HN := hid hn
  have hn8 : n ≤ 8 := by omega
  have HR : Hid (∀ W, Below w.heap.size w W → Rd W B A (rws enC es)) := hid fun W hW => hr.below hW hB
  have HSB := hid (fun (e : En) (he : e ∈ es) (W : World) (hW : Below w.heap.size w W) => sstub_any e (hf e he).1 W (hfd.below hW hfd.1))
  have HIS := hid (fun (k : Nat) (h : k < es.length) => itK_set es k h h8)
  have HIL := hid (fun (k : Nat) (h : k ≤ es.length) => itK_len es k h h8)
  have HIE := hid (itK_end who view es)
  obtain ⟨i0, hi, hz0, hz1, hz2⟩ := info_parts infoIt
  have HB0 : Hid (Below w.heap.size w (w.alloc (.cells z33 45))) := hid ((Below.refl _ _).alloc (Nat.le_refl _) _)
  have R0 : Hid (Row (w.alloc (.cells z33 45)) w.heap.size 45 z33.toList) := hid (Row.new _ _ _)
  obtain ⟨X, hX⟩ : ∃ X, X = logL who view es := ⟨_, rfl⟩
  have HXC : Hid (∀ g : Nat, X.cells ⟨none, 0, some ⟨g, 0, none⟩, 8⟩ = #[.int .i64 7, .int .i64 who, .int .i64 9, .int .i64 view, .int .i64 0, .int .i64 0, .int .i64 0, .int .i64 0, .int .i64 0, .int .i64 0, .int .i64 0, .int .i64 0, .int .i64 0, .int .i64 0, .int .u64 0, .int .u64 0, .int .u64 0, .int .u64 0, .int .u64 0, .int .u64 0, .int .u64 0, .int .i64 0, .int .i64 0, .int .i64 0, .int .u64 0, .int .i64 0, .int .i64 0, .int .i64 0, .int .i64 0, .string ⟨#[]⟩, .slice none 0 0, .slice (some ⟨g, 0, none⟩) 8 8, .string ⟨#[]⟩]) := hid (fun g => by
    have hl : (logL who view es).xs.length = 8 := by rw [← itK_end, itK_len es _ (Nat.le_refl _) h8]
    subst hX
    unfold Ms.cells
    rw [hl]
    rfl)
  rw [← hX] at HIE
  show Calls _ _ _ _ (LG18 w who view es)
  have HLG : Hid (∀ e w', (∃ g, e = .returned (.agg (X.cells ⟨none, 0, some ⟨g, 0, none⟩, 8⟩)) ∧ w.heap.size ≤ g ∧ Row w' g 40 (rws itC X.xs) ∧ Below w.heap.size w w') → LG18 w who view es e w') := hid (by rw [hX]; exact fun _ _ h => h)
  clear hr hf hfd hX h8 hn
  go_enter Tryz.func17, Tryz.ntmps17
  go_wp2_with (first
      | ((with_reducible show wpList _ _ _ ({ dst := some 11, op := _, type := _, pos := _, after := _, guard := _ } :: _) _ _); refine wpl_make_big18 rfl _ _ _ rfl 40 i0 _ (itC it0) Tryz.underlying43 hi hz0 hz1 rfl (by decide) _ _ 8 8 8 rfl rfl ?_ (hid rfl) (hid rfl) (hid (by rw [hz2]; decide)) (hid (by decide)); intro g w1 HG hr1 hg; have RI := hid hr1; have HG2 := hid (show g = w.heap.size + 1 by rw [HG.out]; simp); have HB1 := hid (HB0.out.trans ((Below.refl _ _).grown hg (by simp) (by intro k hk; cases hk))); have R1 := hid (R0.out.grown hg (by intro x; cases x)); have hgl := hr1.lt; clear hr1 hg)
      | ((with_reducible show wpList _ _ _ ({ dst := none, op := .store _ (.tmp 7) (.tmp 12), type := _, pos := _, after := _, guard := _ } :: _) _ _); refine wpl_store_st rfl (.tmp 7) (.tmp 12) rfl HZS.out (w1.heap.size) (z33) (X.cells ⟨none, 0, some ⟨g, 0, none⟩, 8⟩) rfl (by rw [HXC.out g]; rfl) (Row.new _ _ _) ?_ (hid (by first | rfl | simp)) (hid (by first | rfl | simp)) (hid (msc_one _ _)); intro w2 hr2 hg; have RM := hid hr2; have hb : Below w1.heap.size w1 w2 := ((Below.refl _ _).alloc (Nat.le_refl _) (.cells z33 45)).trans (below_grown hg (Nat.le_refl _) (by simp)); have HB2 := hid (HB1.out.trans (hb.mono HB1.out.size)); have R2 := hid (R1.out.below hb R1.out.lt); have RI2 := hid (RI.out.below hb RI.out.lt); have HGL := hid hgl; clear hr2 hg hb hgl))
  have HM1 : Hid (w.heap.size + 1 < w1.heap.size) := hid (by have := HGL.out; have := HG2.out; omega)
  go_loopw [8] (fun i wr => ∃ k : Nat, k ≤ n ∧ i = .int .i64 (k : Int) ∧ Hid (Row wr g 40 (rws itC (itK es k))) ∧ Hid (Row wr w1.heap.size 45 (X.cells ⟨none, 0, some ⟨g, 0, none⟩, 8⟩).toList) ∧ Hid (Row wr w.heap.size 45 z33.toList) ∧ Hid (Below w.heap.size w wr)) (fun i _ => n - (intOf i).toNat)
  case atStart => exact ⟨0, by omega, by rfl, RI2, RM, R2, HB2⟩
  case round =>
    clear RI2 R2 HB2 RM R1 HB1 RI R0 HB0
    obtain ⟨k, hk, rfl, RI, RM, R0, HBE⟩ := hrel
    by_cases hlt : k < n
    · have hkl : k < es.length := by rw [← HN.out]; exact hlt
      obtain ⟨ge, oe, rfl, hge, -⟩ := rws_at (n := 9) (fun _ => rfl) (HR.out wr HBE.out) k hkl (by omega)
      have HRG : Hid (∀ W, Below w.heap.size w W → W.rangeAt ge (oe + k * 9) (Array.toList es[k].cells)) := hid fun W hW => by
        obtain ⟨g', o', e', -, h⟩ := rws_at (n := 9) (fun _ => rfl) (HR.out W hW) k hkl (by omega)
        cases e'
        exact h
      have HS1 := hid (HSB.out es[k] (List.getElem_mem hkl))
      have HNX := hid (HIS.out k hkl)
      have HLL := hid (HIL.out k (Nat.le_of_lt hkl))
      have hi1 : (k : Int) < (n : Int) := by omega
      have hi8 : (k : Int) < 8 := by omega
      have hi0 : (0 : Int) ≤ (k : Int) := by omega
      have hk8 : k < 8 := by omega
      have C31 : Hid (∀ W, Row W w1.heap.size 45 (X.cells ⟨none, 0, some ⟨g, 0, none⟩, 8⟩).toList → W.cell? ⟨w1.heap.size, 31, none⟩ = some (.slice (some ⟨g, 0, none⟩) 8 8)) := hid fun W h => (h.cell 31).trans (by rw [HXC.out]; rfl)
      have HHC : Hid (holdC es[k] = ⟨1, stubS es[k], es[k]⟩) := hid rfl
      rw [HHC.out] at HNX
      generalize es[k] = e at *
      generalize stubS e = s at *
      generalize X.cells ⟨none, 0, some ⟨g, 0, none⟩, 8⟩ = XC at *
      clear hge HR HSB HIS HIL HHC HXC
      go_wp2_with fail
      have HZD := hid R0.out.drew
      have RID := hid RI.out.drew
      refine wp_region_held_drew (S := (fun W => Row W w1.heap.size 45 XC.toList ∧ Below w.heap.size w W)) (by kernel_rfl) (⟨RM.out.drew, HBE.out.drew⟩) (fun hH => ?_)
      refine tk_ (i := 0) (v := .pointer (some ⟨w1.heap.size, 31, none⟩)) rfl (Or.inl ⟨by rfl, fun w' hw' => by clear hw'; go_simp⟩) hH ?_
      simp only [Act.put, la1, la3, la4, la5, la6]
      refine tk_ (i := 1) (v := .slice (some ⟨g, 0, none⟩) 8 8) rfl (Or.inl ⟨by rfl, fun w' hw' => by have h := C31.out w' hw'.1; clear hw'; go_simp⟩) hH ?_
      simp only [Act.put, la1, la2, la3, la4, la5, la6]
      refine tk_ (i := 2) (v := .int .i64 (k : Int)) rfl (Or.inl ⟨by rfl, fun w' hw' => by clear hw'; go_simp⟩) hH ?_
      simp only [Act.put, la1, la2, la3, la4, la5, la6]
      refine tk_ (i := 3) (v := .slice (some ⟨ge, oe, none⟩) n c) rfl (Or.inl ⟨by rfl, fun w' hw' => by clear hw'; go_simp⟩) hH ?_
      simp only [Act.put, la1, la2, la3, la4, la5, la6]
      refine tk_ (i := 4) (v := .int .i64 (k : Int)) rfl (Or.inl ⟨by rfl, fun w' hw' => by clear hw'; go_simp⟩) hH ?_
      simp only [Act.put, la1, la2, la3, la4, la5, la6]
      refine tk_ (i := 5) (v := .pointer (some ⟨ge, oe + k * 9, none⟩)) rfl (Or.inl ⟨by rfl, fun w' hw' => by clear hw'; go_simp⟩) hH ?_
      simp only [Act.put, la1, la2, la3, la4, la5, la6]
      refine tk_ (i := 6) (v := .agg (e.cells)) rfl (yieldsIf_load_mid rfl 35 (.tmp 24) rfl (ge) (oe + k * 9) rfl (Array.toList (e.cells)) _ (fun W hW => HRG.out W hW.2) Tryz.underlying35 rfl (by exact HZE.out)) hH ?_
      simp only [Act.put, la1, la2, la3, la4, la5, la6]
      refine tk_ (i := 8) (v := .slice (some ⟨ge, oe, none⟩) n c) rfl (Or.inl ⟨by rfl, fun w' hw' => by clear hw'; go_simp⟩) hH ?_
      simp only [Act.put, la1, la2, la3, la4, la5, la6]
      refine tk_ (i := 9) (v := .int .i64 (k : Int)) rfl (Or.inl ⟨by rfl, fun w' hw' => by clear hw'; go_simp⟩) hH ?_
      simp only [Act.put, la1, la2, la3, la4, la5, la6]
      refine tk_ (i := 10) (v := .pointer (some ⟨ge, oe + k * 9, none⟩)) rfl (Or.inl ⟨by rfl, fun w' hw' => by clear hw'; go_simp⟩) hH ?_
      simp only [Act.put, la1, la2, la3, la4, la5, la6]
      refine tk_ (i := 11) (v := .agg (e.cells)) rfl (yieldsIf_load_mid rfl 35 (.tmp 29) rfl (ge) (oe + k * 9) rfl (Array.toList (e.cells)) _ (fun W hW => HRG.out W hW.2) Tryz.underlying35 rfl (by exact HZE.out)) hH ?_
      simp only [Act.put, la1, la2, la3, la4, la5, la6]
      refine rd1 (i := 7) (by kernel_rfl) rfl (fun K hK => ?_)
      go_simp
      go_at_call 14
      refine (HS1.out _ hH.2).mono ?_
      rintro x w3 ⟨rfl, hb⟩
      go_wp2_with fail
      have hZ3 := HZD.out.below hb HZD.out.lt
      have RI3 := RID.out.below hb RID.out.lt
      refine hK.out _ _ (⟨hH.1.below hb hH.1.lt, hH.2.trans (hb.mono hH.2.size)⟩) (fun hH => ?_)
      clear hK K
      try simp only [Act.put, la1, la2, la3, la4, la5, la6]
      refine tk_ (i := 12) (v := .agg (⟨1, s, e⟩ : It).cells) rfl (Or.inl ⟨by kernel_rfl, fun w' _ => by kernel_rfl⟩) hH ?_
      simp only [Act.put, la1, la2, la3, la4, la5, la6]
      refine tk_ (i := 13) (v := .pointer (some ⟨g, k * 15, none⟩)) rfl (Or.inl ⟨by rfl, fun w' hw' => by clear hw'; go_simp⟩) hH ?_
      simp only [Act.put, la1, la2, la3, la4, la5, la6]
      refine rd1 (i := 14) (by kernel_rfl) rfl (fun K hK => ?_)
      obtain ⟨hM8, hb8⟩ := hH
      rw [if_pos (by kernel_rfl)]
      have hlen8 : (rws itC (itK es k)).length = 120 := by rw [rws_len (n := 15) (fun _ => rfl), HLL.out]
      obtain ⟨RX, hg8⟩ := setCellsM RI3 (⟨1, s, e⟩ : It).cells.toList (k * 15) (by rw [hlen8]; simp [It.cells]; omega)
      refine wp_store_mid 40 (.tmp 32) (.tmp 31) rfl g (k * 15) (⟨1, s, e⟩ : It).cells rfl rfl (thereM RI3 _ _ (by rw [hlen8]; simp [It.cells]; omega)) HZI.out (itc_one _) ?_
      rw [rws_splice itC 15 (fun _ => rfl) (itK es k) k ⟨1, s, e⟩ (by rw [HLL.out]; exact hk8), HNX.out] at RX
      have hb9 := hb8.trans (below_grown hg8 (by have := HG2.out; omega) hb8.size)
      have hM9 := hM8.grown hg8 (by intro x; have := Option.some.inj x; have := HM1.out; have := HG2.out; omega)
      have hZ9 := hZ3.grown hg8 (by intro x; have := Option.some.inj x; have := HG2.out; omega)
      refine hK.out _ _ ⟨hM9, hb9⟩ (fun hH => ?_)
      clear hK K hH
      try simp only [Act.put, la1, la2, la3]
      refine wpAnyH_done (by kernel_rfl) ?_ _
      try simp only [Act.put, la1, la2, la3, la4, la5, la6]
      go_wp2_with fail
      go_roundw
      case rel => exact ⟨k + 1, by omega, by go_num, hid RX, hid hM9, hid hZ9, hid hb9⟩
      case measure => simp [intOf]; omega
    · obtain rfl : k = n := by omega
      rw [HN.out, HIE.out] at RI
      go_wp2_with (first
        | ((with_reducible show wpList _ _ _ ({ dst := some 33, op := _, type := _, pos := _, after := _, guard := _ } :: _) _ _); refine wpList_load_row rfl 45 (.tmp 7) rfl (w1.heap.size) rfl 45 (X.cells ⟨none, 0, some ⟨g, 0, none⟩, 8⟩) (0, 0) _ (Row.arr RM.out) Tryz.underlying45 rfl HZS.out ?_)
        | ((with_reducible show wpList _ _ _ ({ dst := none, op := .store _ (.tmp 6) (.tmp 33), type := _, pos := _, after := _, guard := _ } :: _) _ _); refine wpl_store_st rfl (.tmp 6) (.tmp 33) rfl HZS.out (w.heap.size) (z33) (X.cells ⟨none, 0, some ⟨g, 0, none⟩, 8⟩) rfl rfl (R0.out) ?_ (hid (by first | rfl | simp)) (hid (by first | rfl | simp)) (hid (msc_one _ _)); intro w9 hr9 hg9))
      exact bodyPost_ret (v := .agg (X.cells ⟨none, 0, some ⟨g, 0, none⟩, 8⟩)) (results_cell_row rfl _ _ w.heap.size 45 (X.cells ⟨none, 0, some ⟨g, 0, none⟩, 8⟩) (0, 0) _ rfl (Row.arr (cs := X.cells ⟨none, 0, some ⟨g, 0, none⟩, 8⟩) hr9) Tryz.underlying45 rfl HZS.out) rfl (HLG.out _ _ ⟨g, rfl, by have := HG2.out; omega, RI.out.grown hg9 (by intro x; have := Option.some.inj x; have := HG2.out; omega), HBE.out.trans (below_grown hg9 (Nat.le_refl _) HBE.out.size)⟩)
end Go.Proofs.YteahbalcielhpaaGreatDoor
/-
  The laws' awake.
-/
namespace Go.Proofs.YteahbalcielhpaaGreatDoor
open Go.RowKit
set_option maxRecDepth 10000

/-! ### []T{x, y, ..} -/
theorem foldl_set18 (off : Nat) (l : List Value) : ∀ (k : Nat) (cs : Array Value), off + k + l.length ≤ cs.size →
    ((l.zipIdx k).foldl (fun (cs : Array Value) (x : Value × Nat) => cs.setIfInBounds (off + x.2) x.1) cs).toList = splice cs.toList (off + k) l := by
  induction l with
  | nil => intro k cs _; simp [splice]
  | cons v r ih =>
    intro k cs h
    simp only [List.length_cons] at h
    rw [List.zipIdx_cons, List.foldl_cons, ih (k + 1) _ (by simp; omega)]
    simp only [splice, Array.toList_setIfInBounds, List.length_cons]
    have hk : off + k < cs.toList.length := by simp; omega
    rw [List.drop_set_of_lt (by omega)]
    have e1 : (cs.toList.set (off + k) v).take (off + (k + 1)) = cs.toList.take (off + k) ++ [v] := by
      rw [show off + (k + 1) = off + k + 1 by omega, List.take_succ_eq_append_getElem (by simpa using hk), List.take_set_of_le (Nat.le_refl _)]
      simp
    rw [e1, List.append_assoc]
    simp [Nat.add_assoc, Nat.add_comm 1]
def partsV : Nat → List (List Value) → List (Nat × Value)
  | _, [] => []
  | k, v :: r => (k, .agg v.toArray) :: partsV (k + 1) r
theorem splice_two18 (cs v r : List Value) (o : Nat) (h : o + v.length ≤ cs.length) : splice (splice cs o v) (o + v.length) r = splice cs o (v ++ r) := by
  unfold splice
  have h1 : (cs.take o).length = o := by rw [List.length_take]; omega
  have e1 : (cs.take o ++ (v ++ cs.drop (o + v.length))).take (o + v.length) = cs.take o ++ v := by
    rw [← List.append_assoc, List.take_append_of_le_length (by rw [List.length_append, h1]; exact Nat.le_refl _), List.take_of_length_le (by rw [List.length_append, h1]; exact Nat.le_refl _)]
  have e2 : (cs.take o ++ (v ++ cs.drop (o + v.length))).drop (o + v.length + r.length) = cs.drop (o + (v.length + r.length)) := by
    rw [← List.append_assoc, List.drop_append, List.drop_of_length_le (by rw [List.length_append, h1]; omega), List.nil_append, List.drop_drop, List.length_append, h1]
    congr 1
    omega
  first
    | rw [e1, e2, List.length_append, List.append_assoc, List.append_assoc]
    | (simp only [List.append_assoc] at e1 e2 ⊢; rw [e1, e2, List.length_append]; simp [List.append_assoc])
theorem fill_manyM (place : Nat → Option (Nat × Nat)) (n : Nat) (hp : ∀ i, place i = some (i * n, n)) : ∀ (vss : List (List Value)) (k : Nat) (cs : Array Value), (∀ v ∈ vss, v.length = n) → (k + vss.length) * n ≤ cs.size →
    Instr.fill place cs (partsV k vss) = some (splice cs.toList (k * n) vss.flatten).toArray
  | [], k, cs, _, _ => by
    have e : splice cs.toList (k * n) [] = cs.toList := by unfold splice; simp
    rw [List.flatten_nil, e]
    rfl
  | v :: r, k, cs, hv, hc => by
    have hn : v.length = n := hv v (by simp)
    simp only [List.length_cons] at hc
    have hle : (k + 1) * n ≤ cs.size := Nat.le_trans (Nat.mul_le_mul_right n (by omega)) hc
    have hk : k * n + n ≤ cs.size := by rw [Nat.add_mul, Nat.one_mul] at hle; exact hle
    show (match place k with | none => none | some (off, size) => _) = _
    rw [hp k]
    have hs : (Value.agg v.toArray).cells.size = n := by rw [← hn]; simp [Value.cells]
    simp only [hs, ne_eq, not_true_eq_false, decide_false, Bool.false_or, decide_eq_true_eq]
    rw [if_neg (by omega)]
    have hz := foldl_set18 (k * n) v 0 cs (by rw [hn]; simpa using hk)
    simp only [Nat.add_zero] at hz
    have hz2 : (Value.agg v.toArray).cells.zipIdx.foldl (fun (cs : Array Value) (x : Value × Nat) => cs.setIfInBounds (k * n + x.2) x.1) cs = (splice cs.toList (k * n) v).toArray := by
      apply Array.toList_inj.1
      rw [← hz]
      simp [Value.cells]
    have hlen : (splice cs.toList (k * n) v).length = cs.size := by
      unfold splice
      simp only [List.length_append, List.length_take, List.length_drop, Array.length_toList]
      omega
    refine (congrArg (fun x => Instr.fill place x (partsV (k + 1) r)) hz2).trans ?_
    rw [fill_manyM place n hp r (k + 1) _ (fun x hx => hv x (by simp [hx])) (by rw [List.size_toArray, hlen]; rw [show k + 1 + r.length = k + (r.length + 1) by omega]; exact hc)]
    congr 2
    have h2 := splice_two18 cs.toList v r.flatten (k * n) (by rw [hn, Array.length_toList]; exact hk)
    rw [List.flatten_cons, ← h2, hn, Nat.add_mul, Nat.one_mul]
theorem fill_allM (n : Nat) (len : Nat) (z : Array Value) (vss : List (List Value)) (hv : ∀ v ∈ vss, v.length = n) (hl : vss.length = len) (cs : Array Value) (hc : cs.size = len * n) :
    Instr.fill (fun i => some (i * n, n)) cs (partsV 0 vss) = some vss.flatten.toArray := by
  have _ := z
  rw [fill_manyM _ n (fun _ => rfl) vss 0 cs hv (by rw [hc, hl, Nat.zero_add]; exact Nat.le_refl _)]
  congr 2
  have hf : vss.flatten.length = len * n := by
    rw [← hl]
    clear hc hl
    induction vss with
    | nil => simp
    | cons v r ih =>
      rw [List.flatten_cons, List.length_append, hv v (by simp), ih (fun x hx => hv x (by simp [hx])), List.length_cons, Nat.add_mul]
      omega
  unfold splice
  rw [Nat.zero_mul, List.take_zero, List.nil_append, Nat.zero_add, List.drop_of_length_le (by rw [hf, Array.length_toList, hc]; exact Nat.le_refl _), List.append_nil]
theorem wp_slicesM {P : Program} {o : Oper} {a : Act} {w : World} {K : Act → World → Prop} {Q : Exit → Act → World → Prop} (t e : TypeId) (len : Nat) (parts : Array (Nat × Operand)) (ho : o.op = .buildSlice t len parts)
    (ie : TypeInfo) (z : Value) (size : Nat) (hu : P.underlying t = some (.slice e)) (hie : P.info? e = some ie) (hz : ie.zero = some z) (hs : ie.size = size) (hpos : ¬ len * size = 0) (hsmall : ¬ len * size > 2 ^ 24)
    (css : List (List Value)) (hx : parts.toList.map (fun (x : Nat × Operand) => (x.1, a.eval x.2)) = partsV 0 css) (hv : ∀ v ∈ css, v.length = size) (hl : css.length = len)
    (h : K (a.put o.dst (.slice (some ⟨w.heap.size, 0, none⟩) len len)) (w.alloc (.cells css.flatten.toArray e))) : o.wp P a w K Q := by
  refine wp_buildSlice t e len parts ho css.flatten.toArray ie z hu hie hz (by rw [hs]; exact hsmall) (by rw [hs]; exact hpos) ?_ h
  refine Eq.trans (congrArg _ ((Array.toList_map ..).trans hx)) ?_
  rw [hs]
  exact fill_allM size len #[] css hv hl _ (by simp)
theorem wpl_slicesM {P : Program} {ops : Array Oper} {rest : List Oper} {o : Oper} {a : Act} {w : World} {Q : Exit → Act → World → Prop} (hgd : o.guard = none) (t e : TypeId) (len : Nat) (parts : Array (Nat × Operand)) (ho : o.op = .buildSlice t len parts)
    (ie : TypeInfo) (z : Value) (size : Nat) (hu : P.underlying t = some (.slice e)) (hie : P.info? e = some ie) (hz : ie.zero = some z) (hs : ie.size = size) (hpos : ¬ len * size = 0) (hsmall : ¬ len * size > 2 ^ 24)
    (css : List (List Value)) (hx : parts.toList.map (fun (x : Nat × Operand) => (x.1, a.eval x.2)) = partsV 0 css) (hv : ∀ v ∈ css, v.length = size) (hl : css.length = len)
    (h : wpList P ops Q rest (a.put o.dst (.slice (some ⟨w.heap.size, 0, none⟩) len len)) (w.alloc (.cells css.flatten.toArray e))) : wpList P ops Q (o :: rest) a w :=
  wpList_plain hgd fun _ hK => wp_slicesM t e len parts ho ie z size hu hie hz hs hpos hsmall css hx hv hl (hK _ _ h)
/-! ### the examples in memory -/
theorem it0_fits : it0.fits := ⟨by unfold In64 it0; simp, st0_fits, en0_fitsM⟩
theorem hold_fits {e : En} (h : e.fits) : (holdC e).fits := ⟨by unfold In64 holdC; simp, stubS_fits h, h⟩
theorem logL_fits {who view : Int} {es : List En} (hw : In64 who) (hv : In64 view) (he : ∀ e ∈ es, e.fits) : (logL who view es).fits := by
  have h0 : In64 0 := by unfold In64; omega
  have h7 : In64 7 := by unfold In64; omega
  have h9 : In64 9 := by unfold In64; omega
  refine ⟨⟨h7, hw, h9, hv, h0, h0⟩, ⟨h0, h0, h0, h0, h0, h0⟩, mk0_fitsM, z6_ok, en0_fitsM, (fun e h => by cases h), fun x hx => ?_⟩
  rcases List.mem_append.1 hx with hx | hx
  · obtain ⟨e, h1, rfl⟩ := List.mem_map.1 hx
    exact hold_fits (he e h1)
  · rw [(List.mem_replicate.1 hx).2]
    exact it0_fits
theorem two_fits : ∀ e ∈ [ent1, ent2], e.fits ∧ Rt e := by
  intro e he
  rcases List.mem_cons.1 he with rfl | he
  · exact ⟨ent1_fits, ent1_rt⟩
  · rw [List.mem_singleton.1 he]; exact ⟨ent2_fits, ent2_rt⟩
theorem one_fits : ∀ e ∈ [ent1], e.fits ∧ Rt e := by
  intro e he
  rw [List.mem_singleton.1 he]; exact ⟨ent1_fits, ent1_rt⟩
theorem logA_fits : logA.fits := logL_fits (by unfold In64; omega) (by unfold In64; omega) fun e he => (two_fits e he).1
theorem logB_fits : logB.fits := logL_fits (by unfold In64; omega) (by unfold In64; omega) fun e he => (one_fits e he).1
theorem logZ_fits : logZ.fits := logL_fits (by unfold In64; omega) (by unfold In64; omega) fun e he => by cases he
theorem logU_fits : logU.fits := by
  obtain ⟨a, b, c, d, e, f, -⟩ := logB_fits
  refine ⟨a, b, c, d, e, f, fun x hx => ?_⟩
  have h3 : it3.fits := ⟨by unfold In64 it3; simp, st0_fits, en0_fitsM⟩
  have h1 : (holdC ent1).fits := hold_fits ent1_fits
  have h0 := it0_fits
  simp only [logU, List.mem_cons, List.not_mem_nil, or_false] at hx
  rcases hx with rfl | rfl | rfl | rfl | rfl | rfl | rfl | rfl <;> assumption
abbrev plG (g : Nat) : Pl := ⟨none, 0, some ⟨g, 0, none⟩, 8⟩
theorem pl_log {W : World} {x : Ms} {g : Nat} (he : x.es = []) (h8 : x.xs.length = 8) (hr : Row W g 40 (rws itC x.xs)) : PlOk W W.heap.size x (plG g) := by
  refine ⟨?_, hr.rd hr.lt, ?_, ?_, ?_, ?_⟩
  · rw [he]; exact Rd.nil
  · rw [he]; simp
  · rw [h8]; decide
  · rw [he]; exact Nat.zero_le _
  · rw [h8]; exact Nat.le_refl _
theorem lm_logs {W : World} {L : List LP} (hp : ∀ x ∈ L, PlOk W W.heap.size x.1 x.2) : Lm (W.alloc (.cells (L.map lpC).flatten.toArray 45)) (W.heap.size + 1) (some ⟨W.heap.size, 0, none⟩) L :=
  ⟨new_rdM 45 W (rws lpC L), fun x hx => ((hp x hx).below ((Below.refl _ _).alloc (Nat.le_refl _) _) (Nat.le_refl _)).le (Nat.le_succ _)⟩
theorem choose_new {count : Int} {L : List LP} {n : Nat} {X : Ch} (hX : chooseC count (L.map Prod.fst) = X) (hn : n = L.length) (hb : n ≤ 100) (hf : ∀ x ∈ L, x.1.fits) {w W : World} (hw : Below w.heap.size w W) (hfd : Fd w) (hmd : Md w) (hp : ∀ x ∈ L, PlOk W W.heap.size x.1 x.2) :
    Calls Tryz.prog 8 #[.int .i64 count, .slice (some ⟨W.heap.size, 0, none⟩) n n] (W.alloc (.cells (L.map lpC).flatten.toArray 45)) (CQ (W.alloc (.cells (L.map lpC).flatten.toArray 45)) X) := by
  have hb2 : Below w.heap.size w (W.alloc (.cells (L.map lpC).flatten.toArray 45)) := hw.alloc hw.size _
  have h := choose_any count (some ⟨W.heap.size, 0, none⟩) L n n (W.heap.size + 1) _ (lm_logs hp) hf hn (Nat.le_refl _) (by simp) (by omega) (hfd.below hb2 hfd.1) (hmd.below hb2 hmd.1)
  rw [hX] at h
  exact h
theorem Lm.le {W : World} {B B' : Nat} {A : Option Addr} {L : List LP} (h : Lm W B A L) (hb : B ≤ B') : Lm W B' A L := ⟨Rd_le h.rd hb, fun x hx => (h.pl x hx).le hb⟩
theorem choose_lm {count : Int} {L : List LP} {n gs : Nat} {X : Ch} (hX : chooseC count (L.map Prod.fst) = X) (hn : n = L.length) (hb : n ≤ 100) (hf : ∀ x ∈ L, x.1.fits) {w W : World} (hw : Below w.heap.size w W) (hfd : Fd w) (hmd : Md w) (hp : Lm W W.heap.size (some ⟨gs, 0, none⟩) L) :
    Calls Tryz.prog 8 #[.int .i64 count, .slice (some ⟨gs, 0, none⟩) n n] W (CQ W X) := by
  have h := choose_any count (some ⟨gs, 0, none⟩) L n n W.heap.size W hp hf hn (Nat.le_refl _) (Nat.le_refl _) (by omega) (hfd.below hw hfd.1) (hmd.below hw hmd.1)
  rw [hX] at h
  exact h
theorem own_two {w : World} {B e n : Nat} {A : Option Addr} {c : Nat} {xs : List Value} (h : w.ownsRow B e n (.slice A 2 c) 2 xs) : ∃ g, A = some ⟨g, 0, none⟩ ∧ 2 ≤ c := by
  obtain ⟨h1, h2⟩ := h
  rcases h2 with ⟨h2, h0⟩ | ⟨g, cap, cur, e1, a, b, c1, -⟩
  · exact absurd h0 (by decide)
  · cases e1
    exact ⟨g, rfl, c1⟩
set_option maxHeartbeats 8000000 in
theorem awake18_any (w : World) (hfd : Fd w) (hmd : Md w) : Calls Tryz.prog 6 #[] w (Yes w) := by
  have hz := zero33
  have hzs := z33_size
  have hzn := z33_ne
  have HZS := hid mssize
  have HZC := hid chsize
  have HZ1 := hid sizeInt
  obtain ⟨i0, hi, hz0, hz1, hz2⟩ := info_parts infoMs
  have HFD := hid hfd
  have HCHN := hid (chain_any w hfd)
  have HLA := hid (fun (A : Option Addr) (c B : Nat) (W : World) (hW : Below w.heap.size w W) (hr : Rd W B A (rws enC [ent1, ent2])) (hc : 2 ≤ c) (hB : B ≤ W.heap.size) => log_any18 1 1 [ent1, ent2] A 2 c B W hr rfl hc hB (by decide) two_fits (hfd.below hW hfd.1))
  have HLB := hid (fun (A : Option Addr) (c B : Nat) (W : World) (hW : Below w.heap.size w W) (hr : Rd W B A (rws enC [ent1])) (hc : 1 ≤ c) (hB : B ≤ W.heap.size) => log_any18 2 2 [ent1] A 1 c B W hr rfl hc hB (by decide) one_fits (hfd.below hW hfd.1))
  have HLZ := hid (fun (W : World) (hW : Below w.heap.size w W) => log_any18 3 0 [] none 0 0 0 W Rd.nil rfl (Nat.le_refl _) (Nat.zero_le _) (by decide) (fun e he => by cases he) (hfd.below hW hfd.1))
  obtain ⟨X, hX⟩ : ∃ X, chooseC 3 [logA, logB] = X := ⟨_, rfl⟩
  obtain ⟨Y, hY⟩ : ∃ X, chooseC 3 [logA, logU] = X := ⟨_, rfl⟩
  obtain ⟨Z, hZ⟩ : ∃ X, chooseC 3 [logA, logU, logZ] = X := ⟨_, rfl⟩
  have hx := awake_x
  rw [hX] at hx
  have hy := awake_y
  rw [hY] at hy
  have hz3 := awake_z
  rw [hZ] at hz3
  have HCX := hid (fun (gA gB : Nat) (W : World) (hW : Below w.heap.size w W) (hp : ∀ x ∈ ([(logA, plG gA), (logB, plG gB)] : List LP), PlOk W W.heap.size x.1 x.2) => choose_new (L := [(logA, plG gA), (logB, plG gB)]) (n := 2) hX rfl (by decide) (by
    intro x hx; rcases List.mem_cons.1 hx with rfl | hx; exact logA_fits; rw [List.mem_singleton.1 hx]; exact logB_fits) hW hfd hmd hp)
  have HCY := hid (fun (gA gB : Nat) (W : World) (hW : Below w.heap.size w W) (hp : ∀ x ∈ ([(logA, plG gA), (logU, plG gB)] : List LP), PlOk W W.heap.size x.1 x.2) => choose_new (L := [(logA, plG gA), (logU, plG gB)]) (n := 2) hY rfl (by decide) (by
    intro x hx; rcases List.mem_cons.1 hx with rfl | hx; exact logA_fits; rw [List.mem_singleton.1 hx]; exact logU_fits) hW hfd hmd hp)
  have HCZ := hid (fun (gA gB gZ gs : Nat) (W : World) (hW : Below w.heap.size w W) (hp : Lm W W.heap.size (some ⟨gs, 0, none⟩) [(logA, plG gA), (logU, plG gB), (logZ, plG gZ)]) => choose_lm (L := [(logA, plG gA), (logU, plG gB), (logZ, plG gZ)]) (n := 3) hZ rfl (by decide) (by
    intro x hx; rcases List.mem_cons.1 hx with rfl | hx; exact logA_fits; rcases List.mem_cons.1 hx with rfl | hx; exact logU_fits; rw [List.mem_singleton.1 hx]; exact logZ_fits) hW hfd hmd hp)
  obtain ⟨hx1, hx2⟩ := hx
  obtain ⟨hz31, hz32⟩ := hz3
  have HX1 := hid hx1
  have HX2 := hid hx2
  have HY1 := hid hy
  have HZ31 := hid hz31
  have HZ32 := hid hz32
  have HUC : Hid (∀ p, logU.cells p = logB.cells p) := hid fun _ => rfl
  have HSET : Hid ((rws itC logB.xs).set 15 (.int .i64 3) = rws itC logU.xs) := hid rfl
  have HA1 : Hid (∀ (W : World) (g : Nat), Row W g 40 (rws itC (logL 1 1 [ent1, ent2]).xs) → Row W g 40 (rws itC logA.xs)) := hid fun _ _ h => h
  have HB1' : Hid (∀ (W : World) (g : Nat), Row W g 40 (rws itC (logL 2 2 [ent1]).xs) → Row W g 40 (rws itC logB.xs)) := hid fun _ _ h => h
  have HPA : Hid (∀ (W : World) (g : Nat), Row W g 40 (rws itC logA.xs) → PlOk W W.heap.size logA (plG g)) := hid fun W g h => pl_log rfl rfl h
  have HPB : Hid (∀ (W : World) (g : Nat), Row W g 40 (rws itC logB.xs) → PlOk W W.heap.size logB (plG g)) := hid fun W g h => pl_log rfl rfl h
  have HPU : Hid (∀ (W : World) (g : Nat), Row W g 40 (rws itC logU.xs) → PlOk W W.heap.size logU (plG g)) := hid fun W g h => pl_log rfl rfl h
  have HPZ : Hid (∀ (W : World) (g : Nat), Row W g 40 (rws itC (logL 3 0 []).xs) → PlOk W W.heap.size logZ (plG g)) := hid fun W g h => pl_log rfl rfl h
  have HAC : Hid (∀ g, (logL 1 1 [ent1, ent2]).cells (plG g) = logA.cells (plG g)) := hid fun _ => rfl
  have HBC : Hid (∀ g, (logL 2 2 [ent1]).cells (plG g) = logB.cells (plG g)) := hid fun _ => rfl
  have HZC3 : Hid (∀ g, (logL 3 0 []).cells (plG g) = logZ.cells (plG g)) := hid fun _ => rfl
  have HC31 : Hid (∀ (W : World) (b g : Nat), Row W b 45 (logB.cells (plG g)).toList → W.cell? ⟨b, 31, none⟩ = some (.slice (some ⟨g, 0, none⟩) 8 8)) := hid fun W b g h => h.cell 31
  have HI15 : Hid (15 < (rws itC logB.xs).length) := hid (by decide)
  clear hfd hmd hX hY hZ hx1 hx2 hz31 hz32 hy
  generalize logA = lA at *
  generalize logB = lB at *
  generalize logU = lU at *
  generalize logZ = lZ at *
  go_enter Tryz.func6, Tryz.ntmps6
  go_wp2_with (first
        | (go_at_call 16; refine (HCHN.out).mono ?_; rintro x w1 ⟨AC, cC, rfl, hcC, hb, hown⟩; have HW1 := hid hb; have HV1 := hid (Below.refl w1.heap.size w1); have HOWN := hid hown; obtain ⟨gC, hgC, hcC2⟩ := own_two hown; subst hgC; obtain ⟨AD, cD, hAD, -, hrdC⟩ := own_rdM hown; cases hAD; have HRD := hid (fun (W : World) (h : Below w1.heap.size w1 W) => hrdC.below h (Nat.le_refl _)); have HC2 := hid hcC2; have hcI : (1 : Int) ≤ (cC : Int) := (by omega); clear hb hown hrdC)
        | ((have zz := HV3); clear zz; go_at_call 17; refine (HLB.out _ _ _ _ HW3.out ((HRD.out _ HV3.out).take 9) (by have := HC2.out; omega) HV3.out.size).mono ?_; rintro x w4 ⟨gB, rfl, hgB, hrB, hb⟩; have HGB3 := hid hgB; clear hgB; have HW4 := hid (HW3.out.trans (hb.mono HW3.out.size)); have HV4 := hid (HV3.out.trans (hb.mono HV3.out.size)); have RA4 := hid (RA3.out.below hb RA3.out.lt); have MA4 := hid (MA3.out.below hb MA3.out.lt); have RB4 := hid (HB1'.out _ _ hrB); clear hb hrB)
        | (go_at_call 17; refine (HLA.out _ _ _ _ HW1.out (HRD.out _ HV1.out) HC2.out HV1.out.size).mono ?_; rintro x w2 ⟨gA, rfl, hgA, hrA, hb⟩; have HW2 := hid (HW1.out.trans (hb.mono HW1.out.size)); have HV2 := hid (HV1.out.trans (hb.mono HV1.out.size)); have RA2 := hid (HA1.out _ _ hrA); clear hb hrA hgA)
        | ((with_reducible show wpList _ _ _ ({ dst := none, op := .store _ (.tmp 2) (.tmp 9), type := _, pos := _, after := _, guard := _ } :: _) _ _); refine wpl_store_st rfl (.tmp 2) (.tmp 9) rfl HZS.out (w2.heap.size) (z33) (lA.cells (plG gA)) rfl (congrArg Value.agg (HAC.out gA)) (Row.new _ _ _) ?_ (hid (by first | rfl | simp)) (hid (by first | rfl | simp)) (hid (msc_one _ _)); intro w3 hr3 hg; have MA3 := hid hr3; have hb : Below w2.heap.size w2 w3 := ((Below.refl _ _).alloc (Nat.le_refl _) (.cells z33 45)).trans (below_grown hg (Nat.le_refl _) (by simp)); have HW3 := hid (HW2.out.trans (hb.mono HW2.out.size)); have HV3 := hid (HV2.out.trans (hb.mono HV2.out.size)); have RA3 := hid (RA2.out.below hb RA2.out.lt); clear hr3 hg hb)
        | ((with_reducible show wpList _ _ _ ({ dst := none, op := .store _ (.tmp 3) (.tmp 12), type := _, pos := _, after := _, guard := _ } :: _) _ _); refine wpl_store_st rfl (.tmp 3) (.tmp 12) rfl HZS.out (w4.heap.size) (z33) (lB.cells (plG gB)) rfl (congrArg Value.agg (HBC.out gB)) (Row.new _ _ _) ?_ (hid (by first | rfl | simp)) (hid (by first | rfl | simp)) (hid (msc_one _ _)); intro w5 hr5 hg; have MB5 := hid hr5; have hb : Below w4.heap.size w4 w5 := ((Below.refl _ _).alloc (Nat.le_refl _) (.cells z33 45)).trans (below_grown hg (Nat.le_refl _) (by simp)); have HW5 := hid (HW4.out.trans (hb.mono HW4.out.size)); have HV5 := hid (HV4.out.trans (hb.mono HV4.out.size)); have RA5 := hid (RA4.out.below hb RA4.out.lt); have MA5 := hid (MA4.out.below hb MA4.out.lt); have RB5 := hid (RB4.out.below hb RB4.out.lt); clear hr5 hg hb)
        | ((with_reducible show wpList _ _ _ ({ dst := some 13, op := _, type := _, pos := _, after := _, guard := _ } :: _) _ _); refine wpList_load_row rfl 45 (.tmp 2) rfl (w2.heap.size) rfl 45 (lA.cells (plG gA)) (0, 0) _ (Row.arr MA5.out) Tryz.underlying45 rfl HZS.out ?_)
        | ((with_reducible show wpList _ _ _ ({ dst := some 14, op := _, type := _, pos := _, after := _, guard := _ } :: _) _ _); refine wpList_load_row rfl 45 (.tmp 3) rfl (w4.heap.size) rfl 45 (lB.cells (plG gB)) (0, 0) _ (Row.arr MB5.out) Tryz.underlying45 rfl HZS.out ?_)
        | ((with_reducible show wpList _ _ _ ({ dst := some 15, op := _, type := _, pos := _, after := _, guard := _ } :: _) _ _); refine wpl_slicesM rfl 22 45 2 #[(0, .tmp 13), (1, .tmp 14)] rfl i0 _ 33 Tryz.underlying22 hi hz0 hz1 (by decide) (by omega) (([(lA, plG gA), (lB, plG gB)] : List LP).map lpC) rfl (by intro v hv; obtain ⟨x, -, rfl⟩ := List.mem_map.1 hv; exact lpC_len x) rfl ?_)
        | ((have zz := RB8); clear zz; go_at_call 8; refine (HCY.out gA gB w8 HW8.out (by intro x hx; rcases List.mem_cons.1 hx with rfl | hx; exact HPA.out _ _ RA8.out; rw [List.mem_singleton.1 hx]; exact HPU.out _ _ RB8.out)).mono ?_; rintro x w9 ⟨AY, cY, rfl, hcY, hb0, -⟩; have hb := ((Below.refl w8.heap.size w8).alloc (Nat.le_refl _) (.cells (([(lA, plG gA), (lU, plG gB)] : List LP).map lpC).flatten.toArray 45)).trans (hb0.mono (by simp)); clear hb0; have HW9 := hid (HW8.out.trans (hb.mono HW8.out.size)); have HV9 := hid (HV8.out.trans (hb.mono HV8.out.size)); have RA9 := hid (RA8.out.below hb RA8.out.lt); have MA9 := hid (MA8.out.below hb MA8.out.lt); have RB9 := hid (RB8.out.below hb RB8.out.lt); have MB9 := hid (MB8.out.below hb MB8.out.lt); have RX9 := hid (RX8.out.below hb RX8.out.lt); clear hb)
        | (go_at_call 8; refine (HCX.out gA gB w5 HW5.out (by intro x hx; rcases List.mem_cons.1 hx with rfl | hx; exact HPA.out _ _ RA5.out; rw [List.mem_singleton.1 hx]; exact HPB.out _ _ RB5.out)).mono ?_; rintro x w6 ⟨AX, cX, rfl, hcX, hb0, -⟩; have hb := ((Below.refl w5.heap.size w5).alloc (Nat.le_refl _) (.cells (([(lA, plG gA), (lB, plG gB)] : List LP).map lpC).flatten.toArray 45)).trans (hb0.mono (by simp)); clear hb0; have HW6 := hid (HW5.out.trans (hb.mono HW5.out.size)); have HV6 := hid (HV5.out.trans (hb.mono HV5.out.size)); have RA6 := hid (RA5.out.below hb RA5.out.lt); have MA6 := hid (MA5.out.below hb MA5.out.lt); have RB6 := hid (RB5.out.below hb RB5.out.lt); have MB6 := hid (MB5.out.below hb MB5.out.lt); clear hb)
        | ((with_reducible show wpList _ _ _ ({ dst := none, op := .store _ (.tmp 4) (.tmp 16), type := _, pos := _, after := _, guard := _ } :: _) _ _); refine wpl_store_st rfl (.tmp 4) (.tmp 16) rfl HZC.out (w6.heap.size) (#[.bool false, .int .i64 0, .int .i64 0, .int .u64 0, .int .i64 0, .slice none 0 0]) (chC X AX cX) rfl rfl (Row.new _ _ _) ?_ (hid (by first | rfl | simp)) (hid (by first | rfl | simp)) (hid (chC_one _ _ _)); intro w7 hr7 hg; have RX7 := hid hr7; have hb : Below w6.heap.size w6 w7 := ((Below.refl _ _).alloc (Nat.le_refl _) (.cells #[.bool false, .int .i64 0, .int .i64 0, .int .u64 0, .int .i64 0, .slice none 0 0] 30)).trans (below_grown hg (Nat.le_refl _) (by simp)); have HW7 := hid (HW6.out.trans (hb.mono HW6.out.size)); have HV7 := hid (HV6.out.trans (hb.mono HV6.out.size)); have RA7 := hid (RA6.out.below hb RA6.out.lt); have MA7 := hid (MA6.out.below hb MA6.out.lt); have RB7 := hid (RB6.out.below hb RB6.out.lt); have MB7 := hid (MB6.out.below hb MB6.out.lt); have c31 := HC31.out w7 w4.heap.size gB MB7.out; have HGB := hid RB4.out.lt; have hgAB : Hid (gA ≠ gB) := hid (by have h1 := RA2.out.lt; have h2 := MA3.out.lt; have h3 := HGB3.out; omega); clear hr7 hg hb)
        | ((with_reducible show wpList _ _ _ ({ dst := none, op := .store _ (.tmp 20) _, type := _, pos := _, after := _, guard := _ } :: _) _ _); refine wpl_store_c rfl 3 (.tmp 20) (.const (.int .i64 3)) rfl gB 15 (.int .i64 3) rfl rfl RB7.out HZ1.out ?_ HI15 (hid rfl); intro w8 hr8 hg; have RB8 : Hid (Row w8 gB 40 (rws itC lU.xs)) := hid (by rw [← HSET.out]; exact hr8); have RA8 := hid (RA7.out.grown hg (by intro x; exact hgAB.out (Option.some.inj x))); have MA8 := hid (MA7.out.grown hg (by intro x; have : w2.heap.size = gB := Option.some.inj x; have h2 := MA3.out.lt; have h3 := HGB3.out; omega)); have MB8 := hid (MB7.out.grown hg (by intro x; have : w4.heap.size = gB := Option.some.inj x; have := HGB.out; omega)); have RX8 := hid (RX7.out.grown hg (by intro x; have : w6.heap.size = gB := Option.some.inj x; have := HGB.out; have := MB6.out.lt; omega)); have HW8 := hid (HW7.out.trans (below_grown hg (Nat.le_trans HW3.out.size HGB3.out) HW7.out.size)); have HV8 := hid (HV7.out.trans (below_grown hg (Nat.le_trans HV3.out.size HGB3.out) HV7.out.size)); clear hr8 hg c31)
        | ((with_reducible show wpList _ _ _ ({ dst := some 21, op := _, type := _, pos := _, after := _, guard := _ } :: _) _ _); refine wpList_load_row rfl 45 (.tmp 2) rfl (w2.heap.size) rfl 45 (lA.cells (plG gA)) (0, 0) _ (Row.arr MA8.out) Tryz.underlying45 rfl HZS.out ?_)
        | ((with_reducible show wpList _ _ _ ({ dst := some 22, op := _, type := _, pos := _, after := _, guard := _ } :: _) _ _); refine wpList_load_row rfl 45 (.tmp 3) rfl (w4.heap.size) rfl 45 (lU.cells (plG gB)) (0, 0) _ (Row.arr (by rw [HUC.out]; exact MB8.out)) Tryz.underlying45 rfl HZS.out ?_)
        | ((with_reducible show wpList _ _ _ ({ dst := some 23, op := _, type := _, pos := _, after := _, guard := _ } :: _) _ _); refine wpl_slicesM rfl 22 45 2 #[(0, .tmp 21), (1, .tmp 22)] rfl i0 _ 33 Tryz.underlying22 hi hz0 hz1 (by decide) (by omega) (([(lA, plG gA), (lU, plG gB)] : List LP).map lpC) rfl (by intro v hv; obtain ⟨x, -, rfl⟩ := List.mem_map.1 hv; exact lpC_len x) rfl ?_)
        | ((with_reducible show wpList _ _ _ ({ dst := none, op := .store _ (.tmp 5) (.tmp 24), type := _, pos := _, after := _, guard := _ } :: _) _ _); refine wpl_store_st rfl (.tmp 5) (.tmp 24) rfl HZC.out (w9.heap.size) (#[.bool false, .int .i64 0, .int .i64 0, .int .u64 0, .int .i64 0, .slice none 0 0]) (chC Y AY cY) rfl rfl (Row.new _ _ _) ?_ (hid (by first | rfl | simp)) (hid (by first | rfl | simp)) (hid (chC_one _ _ _)); intro w10 hr10 hg; have RY10 := hid hr10; have hb : Below w9.heap.size w9 w10 := ((Below.refl _ _).alloc (Nat.le_refl _) (.cells #[.bool false, .int .i64 0, .int .i64 0, .int .u64 0, .int .i64 0, .slice none 0 0] 30)).trans (below_grown hg (Nat.le_refl _) (by simp)); have HW10 := hid (HW9.out.trans (hb.mono HW9.out.size)); have HV10 := hid (HV9.out.trans (hb.mono HV9.out.size)); have RA10 := hid (RA9.out.below hb RA9.out.lt); have MA10 := hid (MA9.out.below hb MA9.out.lt); have RB10 := hid (RB9.out.below hb RB9.out.lt); have MB10 := hid (MB9.out.below hb MB9.out.lt); have RX10 := hid (RX9.out.below hb RX9.out.lt); clear hr10 hg hb))
  clear HW1 HW2 HW3 HW4 HW5 HW6 HW7 HW8 HW9 HV1 HV2 HV3 HV4 HV5 HV6 HV7 HV8 HV9 HV10
  refine wp_region_held_drew (S := (fun W => Below w10.heap.size w10 W)) (by kernel_rfl) ((Below.refl _ _).drew) (fun hH => ?_)
  refine tk_ (i := 0) (v := .agg (lA.cells (plG gA))) rfl (yieldsIf_load_mid rfl 45 (.tmp 2) rfl (w2.heap.size) 0 rfl (Array.toList (lA.cells (plG gA))) _ (fun W hW => Row.range (MA10.out.below hW MA10.out.lt)) Tryz.underlying45 rfl (by exact HZS.out)) hH ?_
  simp only [Act.put, la1, la3, la4, la5, la6]
  refine tk_ (i := 1) (v := .agg (lU.cells (plG gB))) rfl (yieldsIf_load_mid rfl 45 (.tmp 3) rfl (w4.heap.size) 0 rfl (Array.toList (lU.cells (plG gB))) _ (fun W hW => by rw [HUC.out]; exact Row.range (MB10.out.below hW MB10.out.lt)) Tryz.underlying45 rfl (by exact HZS.out)) hH ?_
  simp only [Act.put, la1, la2, la3, la4, la5, la6]
  refine wpAnyH_ready (rs := [2, 5]) (by kernel_rfl) (by simp) ?_
  refine AllReadyH.cons rfl (fun K hK => ?_) (AllReadyH.cons rfl (fun K hK => ?_) AllReadyH.nil)
  · go_simp
    go_at_call 17
    refine (HLZ.out _ (HW10.out.trans (hH.mono HW10.out.size))).mono ?_
    rintro x u11 ⟨gZ, rfl, -, hrZ, hb⟩
    go_wp2_with fail
    rw [HZC3.out]
    have RZ := hid hrZ
    refine hK.out _ _ (hH.trans (hb.mono hH.size)) (fun hH => ?_)
    clear hb hrZ
    clear hK K
    try simp only [Act.put, la1, la2, la3, la4, la5, la6]
    refine wpAnyH_ready (rs := [3, 5]) (by kernel_rfl) (by simp) ?_
    refine AllReadyH.cons rfl (fun K hK => ?_) (AllReadyH.cons rfl (fun K hK => ?_) AllReadyH.nil)
    · rw [if_pos (by rfl)]
      refine wp_slicesM 22 45 3 #[(0, .tmp 25), (1, .tmp 26), (2, .tmp 27)] rfl i0 _ 33 Tryz.underlying22 hi hz0 hz1 (by decide) (by omega) (([(lA, plG gA), (lU, plG gB), (lZ, plG gZ)] : List LP).map lpC) rfl (by intro v hv; obtain ⟨x, -, rfl⟩ := List.mem_map.1 hv; exact lpC_len x) rfl ?_
      simp only [Act.put]
      have HLM : Hid (Lm (u11.alloc (.cells (([(lA, plG gA), (lU, plG gB), (lZ, plG gZ)] : List LP).map lpC).flatten.toArray 45)) (u11.heap.size + 1) (some ⟨u11.heap.size, 0, none⟩) ([(lA, plG gA), (lU, plG gB), (lZ, plG gZ)] : List LP)) := hid (by
        have h := lm_logs (W := u11) (L := ([(lA, plG gA), (lU, plG gB), (lZ, plG gZ)] : List LP)) (by intro x hx; rcases List.mem_cons.1 hx with rfl | hx; exact HPA.out _ _ (RA10.out.below hH RA10.out.lt); rcases List.mem_cons.1 hx with rfl | hx; exact HPU.out _ _ (RB10.out.below hH RB10.out.lt); rw [List.mem_singleton.1 hx]; exact HPZ.out _ _ RZ.out)
        rwa [show (u11).heap.size = u11.heap.size by simp] at h)
      refine hK.out _ _ (hH.alloc hH.size _) (fun hH => ?_)
      clear hK K
      try simp only [la1, la2, la3, la4, la5, la6]
      refine wpAnyH_ready (rs := [4, 5]) (by kernel_rfl) (by simp) ?_
      refine AllReadyH.cons rfl (fun K hK => ?_) (AllReadyH.cons rfl (fun K hK => ?_) AllReadyH.nil)
      · go_simp
        go_at_call 8
        refine (HCZ.out gA gB gZ _ _ (HW10.out.trans (hH.mono HW10.out.size)) (HLM.out.le (by simp))).mono ?_
        rintro x v13 ⟨AZ, cZ, rfl, hcZ, hb, -⟩
        go_wp2_with fail
        refine hK.out _ _ (hH.trans (hb.mono hH.size)) (fun hH => ?_)
        clear hb
        clear hK K
        try simp only [Act.put, la1, la2, la3, la4, la5, la6]
        refine wpAnyH_ready (rs := [5]) (by kernel_rfl) (by simp) ?_
        refine AllReadyH.cons rfl (fun K hK => ?_) AllReadyH.nil
        go_simp
        have HIX : Hid (w10.heap.size ≤ v13.heap.size) := hid (by have h := hH.size; simpa using h)
        have RCH : Row ((v13).alloc (.cells #[.bool false, .int .i64 0, .int .i64 0, .int .u64 0, .int .i64 0, .slice none 0 0] 30)) (v13.heap.size) 30 (#[.bool false, .int .i64 0, .int .i64 0, .int .u64 0, .int .i64 0, .slice none 0 0] : Array Value).toList := by
          have h := Row.new (v13) 30 #[.bool false, .int .i64 0, .int .i64 0, .int .u64 0, .int .i64 0, .slice none 0 0]
          rwa [show (v13).heap.size = v13.heap.size by simp] at h
        replace RZ := hid (RZ.out.alloc (.cells #[.bool false, .int .i64 0, .int .i64 0, .int .u64 0, .int .i64 0, .slice none 0 0] 30))
        replace HLM := hid (HLM.out.below ((Below.refl _ _).alloc (Nat.le_refl _) (.cells #[.bool false, .int .i64 0, .int .i64 0, .int .u64 0, .int .i64 0, .slice none 0 0] 30)) (by simp))
        refine hK.out _ _ (hH.alloc hH.size _) (fun hH => ?_)
        clear hK K
        try simp only [Act.put, la1, la2, la3, la4, la5, la6]
        refine wpAnyH_ready (rs := [6]) (by kernel_rfl) (by simp) ?_
        refine AllReadyH.cons rfl (fun K hK => ?_) AllReadyH.nil
        rw [if_pos (by kernel_rfl)]
        refine wp_store_st (.tmp 6) (.tmp 29) rfl HZC.out (v13.heap.size) #[.bool false, .int .i64 0, .int .i64 0, .int .u64 0, .int .i64 0, .slice none 0 0] (chC Z AZ cZ) rfl rfl RCH rfl rfl (chC_one _ _ _) (fun w99 hr99 hg99 => ?_)
        refine hK.out _ _ (hH.trans (below_grown hg99 HIX.out hH.size)) (fun hH => ?_)
        clear hK K
        try simp only [Act.put, la1, la2, la3]
        refine wpAnyH_done (by kernel_rfl) ?_ _
        try simp only [Act.put, la1, la2, la3, la4, la5, la6]
        have cx0 : w99.cell? ⟨w6.heap.size, 0, none⟩ = some (.bool true) := by rw [← HX1.out]; exact (RX10.out.below hH RX10.out.lt).cell 0
        have cx5 : w99.cell? ⟨w6.heap.size, 5, none⟩ = some (.slice AX 1 cX) := by rw [← HX2.out]; exact (RX10.out.below hH RX10.out.lt).cell 5
        have cy0 : w99.cell? ⟨w9.heap.size, 0, none⟩ = some (.bool false) := by rw [← HY1.out]; exact (RY10.out.below hH RY10.out.lt).cell 0
        have cz0 : w99.cell? ⟨v13.heap.size, 0, none⟩ = some (.bool true) := by rw [← HZ31.out]; exact hr99.cell 0
        have cz5 : w99.cell? ⟨v13.heap.size, 5, none⟩ = some (.slice AZ 2 cZ) := by rw [← HZ32.out]; exact hr99.cell 5
        have HFIN := hid (HW10.out.trans (hH.mono HW10.out.size))
        clear hH hr99 hg99 RCH HW10 RA10 RB10 MA10 MB10 RX10 RY10
        generalize v13.heap.size = gZZ at *
        go_wp2_with fail
        go_ret
        exact ⟨rfl, HFIN.out⟩
      · go_simp
        have HIX : Hid (w10.heap.size ≤ u11.heap.size + 1) := hid (by have h := hH.size; simpa using h)
        have RCH : Row ((((u11).alloc (.cells (([(lA, plG gA), (lU, plG gB), (lZ, plG gZ)] : List LP).map lpC).flatten.toArray 45))).alloc (.cells #[.bool false, .int .i64 0, .int .i64 0, .int .u64 0, .int .i64 0, .slice none 0 0] 30)) (u11.heap.size + 1) 30 (#[.bool false, .int .i64 0, .int .i64 0, .int .u64 0, .int .i64 0, .slice none 0 0] : Array Value).toList := by
          have h := Row.new (((u11).alloc (.cells (([(lA, plG gA), (lU, plG gB), (lZ, plG gZ)] : List LP).map lpC).flatten.toArray 45))) 30 #[.bool false, .int .i64 0, .int .i64 0, .int .u64 0, .int .i64 0, .slice none 0 0]
          rwa [show (((u11).alloc (.cells (([(lA, plG gA), (lU, plG gB), (lZ, plG gZ)] : List LP).map lpC).flatten.toArray 45))).heap.size = u11.heap.size + 1 by simp] at h
        replace RZ := hid (RZ.out.alloc (.cells #[.bool false, .int .i64 0, .int .i64 0, .int .u64 0, .int .i64 0, .slice none 0 0] 30))
        replace HLM := hid (HLM.out.below ((Below.refl _ _).alloc (Nat.le_refl _) (.cells #[.bool false, .int .i64 0, .int .i64 0, .int .u64 0, .int .i64 0, .slice none 0 0] 30)) (by simp))
        refine hK.out _ _ (hH.alloc hH.size _) (fun hH => ?_)
        clear hK K
        try simp only [Act.put, la1, la2, la3, la4, la5, la6]
        refine wpAnyH_ready (rs := [4]) (by kernel_rfl) (by simp) ?_
        refine AllReadyH.cons rfl (fun K hK => ?_) AllReadyH.nil
        go_simp
        go_at_call 8
        refine (HCZ.out gA gB gZ _ _ (HW10.out.trans (hH.mono HW10.out.size)) (HLM.out.le (by simp))).mono ?_
        rintro x v14 ⟨AZ, cZ, rfl, hcZ, hb, -⟩
        go_wp2_with fail
        have RCH := RCH.below hb RCH.lt
        refine hK.out _ _ (hH.trans (hb.mono hH.size)) (fun hH => ?_)
        clear hb
        clear hK K
        try simp only [Act.put, la1, la2, la3, la4, la5, la6]
        refine wpAnyH_ready (rs := [6]) (by kernel_rfl) (by simp) ?_
        refine AllReadyH.cons rfl (fun K hK => ?_) AllReadyH.nil
        rw [if_pos (by kernel_rfl)]
        refine wp_store_st (.tmp 6) (.tmp 29) rfl HZC.out (u11.heap.size + 1) #[.bool false, .int .i64 0, .int .i64 0, .int .u64 0, .int .i64 0, .slice none 0 0] (chC Z AZ cZ) rfl rfl RCH rfl rfl (chC_one _ _ _) (fun w99 hr99 hg99 => ?_)
        refine hK.out _ _ (hH.trans (below_grown hg99 HIX.out hH.size)) (fun hH => ?_)
        clear hK K
        try simp only [Act.put, la1, la2, la3]
        refine wpAnyH_done (by kernel_rfl) ?_ _
        try simp only [Act.put, la1, la2, la3, la4, la5, la6]
        have cx0 : w99.cell? ⟨w6.heap.size, 0, none⟩ = some (.bool true) := by rw [← HX1.out]; exact (RX10.out.below hH RX10.out.lt).cell 0
        have cx5 : w99.cell? ⟨w6.heap.size, 5, none⟩ = some (.slice AX 1 cX) := by rw [← HX2.out]; exact (RX10.out.below hH RX10.out.lt).cell 5
        have cy0 : w99.cell? ⟨w9.heap.size, 0, none⟩ = some (.bool false) := by rw [← HY1.out]; exact (RY10.out.below hH RY10.out.lt).cell 0
        have cz0 : w99.cell? ⟨u11.heap.size + 1, 0, none⟩ = some (.bool true) := by rw [← HZ31.out]; exact hr99.cell 0
        have cz5 : w99.cell? ⟨u11.heap.size + 1, 5, none⟩ = some (.slice AZ 2 cZ) := by rw [← HZ32.out]; exact hr99.cell 5
        have HFIN := hid (HW10.out.trans (hH.mono HW10.out.size))
        clear hH hr99 hg99 RCH HW10 RA10 RB10 MA10 MB10 RX10 RY10
        generalize u11.heap.size + 1 = gZZ at *
        go_wp2_with fail
        go_ret
        exact ⟨rfl, HFIN.out⟩
    · go_simp
      have HIX : Hid (w10.heap.size ≤ u11.heap.size) := hid (by have h := hH.size; simpa using h)
      have RCH : Row ((u11).alloc (.cells #[.bool false, .int .i64 0, .int .i64 0, .int .u64 0, .int .i64 0, .slice none 0 0] 30)) (u11.heap.size) 30 (#[.bool false, .int .i64 0, .int .i64 0, .int .u64 0, .int .i64 0, .slice none 0 0] : Array Value).toList := by
        have h := Row.new (u11) 30 #[.bool false, .int .i64 0, .int .i64 0, .int .u64 0, .int .i64 0, .slice none 0 0]
        rwa [show (u11).heap.size = u11.heap.size by simp] at h
      replace RZ := hid (RZ.out.alloc (.cells #[.bool false, .int .i64 0, .int .i64 0, .int .u64 0, .int .i64 0, .slice none 0 0] 30))
      refine hK.out _ _ (hH.alloc hH.size _) (fun hH => ?_)
      clear hK K
      try simp only [Act.put, la1, la2, la3, la4, la5, la6]
      refine wpAnyH_ready (rs := [3]) (by kernel_rfl) (by simp) ?_
      refine AllReadyH.cons rfl (fun K hK => ?_) AllReadyH.nil
      rw [if_pos (by rfl)]
      refine wp_slicesM 22 45 3 #[(0, .tmp 25), (1, .tmp 26), (2, .tmp 27)] rfl i0 _ 33 Tryz.underlying22 hi hz0 hz1 (by decide) (by omega) (([(lA, plG gA), (lU, plG gB), (lZ, plG gZ)] : List LP).map lpC) rfl (by intro v hv; obtain ⟨x, -, rfl⟩ := List.mem_map.1 hv; exact lpC_len x) rfl ?_
      simp only [Act.put]
      have HLM : Hid (Lm (((u11).alloc (.cells #[.bool false, .int .i64 0, .int .i64 0, .int .u64 0, .int .i64 0, .slice none 0 0] 30)).alloc (.cells (([(lA, plG gA), (lU, plG gB), (lZ, plG gZ)] : List LP).map lpC).flatten.toArray 45)) (u11.heap.size + 1 + 1) (some ⟨u11.heap.size + 1, 0, none⟩) ([(lA, plG gA), (lU, plG gB), (lZ, plG gZ)] : List LP)) := hid (by
        have h := lm_logs (W := ((u11).alloc (.cells #[.bool false, .int .i64 0, .int .i64 0, .int .u64 0, .int .i64 0, .slice none 0 0] 30))) (L := ([(lA, plG gA), (lU, plG gB), (lZ, plG gZ)] : List LP)) (by intro x hx; rcases List.mem_cons.1 hx with rfl | hx; exact HPA.out _ _ (RA10.out.below hH RA10.out.lt); rcases List.mem_cons.1 hx with rfl | hx; exact HPU.out _ _ (RB10.out.below hH RB10.out.lt); rw [List.mem_singleton.1 hx]; exact HPZ.out _ _ RZ.out)
        rwa [show (((u11).alloc (.cells #[.bool false, .int .i64 0, .int .i64 0, .int .u64 0, .int .i64 0, .slice none 0 0] 30))).heap.size = u11.heap.size + 1 by simp] at h)
      replace RCH := RCH.alloc (.cells (([(lA, plG gA), (lU, plG gB), (lZ, plG gZ)] : List LP).map lpC).flatten.toArray 45)
      refine hK.out _ _ (hH.alloc hH.size _) (fun hH => ?_)
      clear hK K
      try simp only [la1, la2, la3, la4, la5, la6]
      refine wpAnyH_ready (rs := [4]) (by kernel_rfl) (by simp) ?_
      refine AllReadyH.cons rfl (fun K hK => ?_) AllReadyH.nil
      go_simp
      go_at_call 8
      refine (HCZ.out gA gB gZ _ _ (HW10.out.trans (hH.mono HW10.out.size)) (HLM.out.le (by simp))).mono ?_
      rintro x v14 ⟨AZ, cZ, rfl, hcZ, hb, -⟩
      go_wp2_with fail
      have RCH := RCH.below hb RCH.lt
      refine hK.out _ _ (hH.trans (hb.mono hH.size)) (fun hH => ?_)
      clear hb
      clear hK K
      try simp only [Act.put, la1, la2, la3, la4, la5, la6]
      refine wpAnyH_ready (rs := [6]) (by kernel_rfl) (by simp) ?_
      refine AllReadyH.cons rfl (fun K hK => ?_) AllReadyH.nil
      rw [if_pos (by kernel_rfl)]
      refine wp_store_st (.tmp 6) (.tmp 29) rfl HZC.out (u11.heap.size) #[.bool false, .int .i64 0, .int .i64 0, .int .u64 0, .int .i64 0, .slice none 0 0] (chC Z AZ cZ) rfl rfl RCH rfl rfl (chC_one _ _ _) (fun w99 hr99 hg99 => ?_)
      refine hK.out _ _ (hH.trans (below_grown hg99 HIX.out hH.size)) (fun hH => ?_)
      clear hK K
      try simp only [Act.put, la1, la2, la3]
      refine wpAnyH_done (by kernel_rfl) ?_ _
      try simp only [Act.put, la1, la2, la3, la4, la5, la6]
      have cx0 : w99.cell? ⟨w6.heap.size, 0, none⟩ = some (.bool true) := by rw [← HX1.out]; exact (RX10.out.below hH RX10.out.lt).cell 0
      have cx5 : w99.cell? ⟨w6.heap.size, 5, none⟩ = some (.slice AX 1 cX) := by rw [← HX2.out]; exact (RX10.out.below hH RX10.out.lt).cell 5
      have cy0 : w99.cell? ⟨w9.heap.size, 0, none⟩ = some (.bool false) := by rw [← HY1.out]; exact (RY10.out.below hH RY10.out.lt).cell 0
      have cz0 : w99.cell? ⟨u11.heap.size, 0, none⟩ = some (.bool true) := by rw [← HZ31.out]; exact hr99.cell 0
      have cz5 : w99.cell? ⟨u11.heap.size, 5, none⟩ = some (.slice AZ 2 cZ) := by rw [← HZ32.out]; exact hr99.cell 5
      have HFIN := hid (HW10.out.trans (hH.mono HW10.out.size))
      clear hH hr99 hg99 RCH HW10 RA10 RB10 MA10 MB10 RX10 RY10
      generalize u11.heap.size = gZZ at *
      go_wp2_with fail
      go_ret
      exact ⟨rfl, HFIN.out⟩
  · go_simp
    have HIX : Hid (w10.heap.size ≤ w10.heap.size) := hid (Nat.le_refl _)
    have RCH : Row ((w10.drew).alloc (.cells #[.bool false, .int .i64 0, .int .i64 0, .int .u64 0, .int .i64 0, .slice none 0 0] 30)) (w10.heap.size) 30 (#[.bool false, .int .i64 0, .int .i64 0, .int .u64 0, .int .i64 0, .slice none 0 0] : Array Value).toList := by
      have h := Row.new (w10.drew) 30 #[.bool false, .int .i64 0, .int .i64 0, .int .u64 0, .int .i64 0, .slice none 0 0]
      rwa [show (w10.drew).heap.size = w10.heap.size by simp] at h
    refine hK.out _ _ (hH.alloc hH.size _) (fun hH => ?_)
    clear hK K
    try simp only [Act.put, la1, la2, la3, la4, la5, la6]
    refine wpAnyH_ready (rs := [2]) (by kernel_rfl) (by simp) ?_
    refine AllReadyH.cons rfl (fun K hK => ?_) AllReadyH.nil
    go_simp
    go_at_call 17
    refine (HLZ.out _ (HW10.out.trans (hH.mono HW10.out.size))).mono ?_
    rintro x u12 ⟨gZ, rfl, -, hrZ, hb⟩
    go_wp2_with fail
    rw [HZC3.out]
    have RZ := hid hrZ
    have RCH := RCH.below hb RCH.lt
    refine hK.out _ _ (hH.trans (hb.mono hH.size)) (fun hH => ?_)
    clear hb hrZ
    clear hK K
    try simp only [Act.put, la1, la2, la3, la4, la5, la6]
    refine wpAnyH_ready (rs := [3]) (by kernel_rfl) (by simp) ?_
    refine AllReadyH.cons rfl (fun K hK => ?_) AllReadyH.nil
    rw [if_pos (by rfl)]
    refine wp_slicesM 22 45 3 #[(0, .tmp 25), (1, .tmp 26), (2, .tmp 27)] rfl i0 _ 33 Tryz.underlying22 hi hz0 hz1 (by decide) (by omega) (([(lA, plG gA), (lU, plG gB), (lZ, plG gZ)] : List LP).map lpC) rfl (by intro v hv; obtain ⟨x, -, rfl⟩ := List.mem_map.1 hv; exact lpC_len x) rfl ?_
    simp only [Act.put]
    have HLM : Hid (Lm (u12.alloc (.cells (([(lA, plG gA), (lU, plG gB), (lZ, plG gZ)] : List LP).map lpC).flatten.toArray 45)) (u12.heap.size + 1) (some ⟨u12.heap.size, 0, none⟩) ([(lA, plG gA), (lU, plG gB), (lZ, plG gZ)] : List LP)) := hid (by
      have h := lm_logs (W := u12) (L := ([(lA, plG gA), (lU, plG gB), (lZ, plG gZ)] : List LP)) (by intro x hx; rcases List.mem_cons.1 hx with rfl | hx; exact HPA.out _ _ (RA10.out.below hH RA10.out.lt); rcases List.mem_cons.1 hx with rfl | hx; exact HPU.out _ _ (RB10.out.below hH RB10.out.lt); rw [List.mem_singleton.1 hx]; exact HPZ.out _ _ RZ.out)
      rwa [show (u12).heap.size = u12.heap.size by simp] at h)
    replace RCH := RCH.alloc (.cells (([(lA, plG gA), (lU, plG gB), (lZ, plG gZ)] : List LP).map lpC).flatten.toArray 45)
    refine hK.out _ _ (hH.alloc hH.size _) (fun hH => ?_)
    clear hK K
    try simp only [la1, la2, la3, la4, la5, la6]
    refine wpAnyH_ready (rs := [4]) (by kernel_rfl) (by simp) ?_
    refine AllReadyH.cons rfl (fun K hK => ?_) AllReadyH.nil
    go_simp
    go_at_call 8
    refine (HCZ.out gA gB gZ _ _ (HW10.out.trans (hH.mono HW10.out.size)) (HLM.out.le (by simp))).mono ?_
    rintro x v14 ⟨AZ, cZ, rfl, hcZ, hb, -⟩
    go_wp2_with fail
    have RCH := RCH.below hb RCH.lt
    refine hK.out _ _ (hH.trans (hb.mono hH.size)) (fun hH => ?_)
    clear hb
    clear hK K
    try simp only [Act.put, la1, la2, la3, la4, la5, la6]
    refine wpAnyH_ready (rs := [6]) (by kernel_rfl) (by simp) ?_
    refine AllReadyH.cons rfl (fun K hK => ?_) AllReadyH.nil
    rw [if_pos (by kernel_rfl)]
    refine wp_store_st (.tmp 6) (.tmp 29) rfl HZC.out (w10.heap.size) #[.bool false, .int .i64 0, .int .i64 0, .int .u64 0, .int .i64 0, .slice none 0 0] (chC Z AZ cZ) rfl rfl RCH rfl rfl (chC_one _ _ _) (fun w99 hr99 hg99 => ?_)
    refine hK.out _ _ (hH.trans (below_grown hg99 HIX.out hH.size)) (fun hH => ?_)
    clear hK K
    try simp only [Act.put, la1, la2, la3]
    refine wpAnyH_done (by kernel_rfl) ?_ _
    try simp only [Act.put, la1, la2, la3, la4, la5, la6]
    have cx0 : w99.cell? ⟨w6.heap.size, 0, none⟩ = some (.bool true) := by rw [← HX1.out]; exact (RX10.out.below hH RX10.out.lt).cell 0
    have cx5 : w99.cell? ⟨w6.heap.size, 5, none⟩ = some (.slice AX 1 cX) := by rw [← HX2.out]; exact (RX10.out.below hH RX10.out.lt).cell 5
    have cy0 : w99.cell? ⟨w9.heap.size, 0, none⟩ = some (.bool false) := by rw [← HY1.out]; exact (RY10.out.below hH RY10.out.lt).cell 0
    have cz0 : w99.cell? ⟨w10.heap.size, 0, none⟩ = some (.bool true) := by rw [← HZ31.out]; exact hr99.cell 0
    have cz5 : w99.cell? ⟨w10.heap.size, 5, none⟩ = some (.slice AZ 2 cZ) := by rw [← HZ32.out]; exact hr99.cell 5
    have HFIN := hid (HW10.out.trans (hH.mono HW10.out.size))
    clear hH hr99 hg99 RCH HW10 RA10 RB10 MA10 MB10 RX10 RY10
    generalize w10.heap.size = gZZ at *
    go_wp2_with fail
    go_ret
    exact ⟨rfl, HFIN.out⟩
end Go.Proofs.YteahbalcielhpaaGreatDoor
