/-
  The laws' chain and log.
-/
import Derived.Test.YteahbalcielhpaaDoorM25
import Derived.Test.YteahbalcielhpaaDoorM18
import Derived.Great.BuildSlice
import Derived.Deep.AppendLies
namespace Go.Proofs.YteahbalcielhpaaDoor
open Go.RowKit
set_option maxRecDepth 10000

/-- the cells of make([]T, n) -/
theorem madeCells_flat18 (z : List Value) (n : Nat) (hz : 0 < z.length) : (madeCells z.toArray (n * z.length)).toList = (List.replicate n z).flatten := by
  apply List.ext_getElem?
  intro j
  have hR : ∀ r ∈ List.replicate n z, r.length = z.length := by intro r hr; rw [List.eq_of_mem_replicate hr]
  have e : j = j / z.length * z.length + j % z.length := by rw [Nat.mul_comm]; exact (Nat.div_add_mod j z.length).symm
  have hm := Nat.mod_lt j hz
  rw [show (List.replicate n z).flatten[j]? = (List.replicate n z).flatten[j / z.length * z.length + j % z.length]? from by rw [← e], flatM_get z.length _ _ _ hR hm, List.getElem?_replicate]
  by_cases hj : j < n * z.length
  · have h1 : j / z.length < n := Nat.div_lt_of_lt_mul (by rw [Nat.mul_comm]; exact hj)
    rw [if_pos h1]
    simp [madeCells, hj, hm]
  · have h1 : ¬ j / z.length < n := by
      intro h1
      have := (Nat.div_lt_iff_lt_mul hz).1 h1
      omega
    rw [if_neg h1]
    simp [madeCells, hj]
/-- make([]T, n) of elements of more cells -/
theorem wpl_make_big18 {P : Program} {w : World} {ops : Array Oper} {rest : List Oper} {o : Oper} {a : Act} {Q : Exit → Act → World → Prop}
    (hg : o.guard = none) (l c : Operand) (t : TypeId) (hop : o.op = Op.makeSlice t l c)
    (e : TypeId) (i : TypeInfo) (z : Value) (zs : List Value) (h1 : P.underlying t = some (.slice e)) (h2 : P.info? e = some i) (h3 : i.zero = some z) (h4 : i.size = zs.length) (hz : z.cells = zs.toArray) (hpos : 0 < zs.length)
    (kl kc : IntKind) (L C : Int) (n : Nat) (hl : a.eval l = .int kl L) (hc : a.eval c = .int kc C)
    (hK : ∀ g w', Hid (g = w.heap.size) → Row w' g e (List.replicate n zs).flatten → w.grownBy w' none → wpList P ops Q rest (a.put o.dst (.slice (some ⟨g, 0, none⟩) n n)) w')
    (hL : Hid (L = (n : Int))) (hC : Hid (C = (n : Int))) (b2 : Hid (i.bytes * n ≤ 281474976710656)) (b3 : Hid (n ≤ maxLen)) :
    wpList P ops Q (o :: rest) a w := by
  refine wpList_make_full w hg l c t hop w.heap.size e i z zs.length h1 h2 h3 h4 kl kc L C n hl hc hL.out hC.out b2.out b3.out (Nat.le_refl _) fun w' hown hgr => hK _ w' (hid rfl) ?_ hgr
  rcases hown.2 with ⟨hv, _⟩ | ⟨g, cap, cur, hv, _, hh, _, _, h5, h6⟩
  · simp at hv
  · simp only [Value.slice.injEq, Option.some.injEq, Addr.mk.injEq, true_and, and_true] at hv
    obtain ⟨rfl, rfl⟩ := hv
    have : cur = ((List.replicate n zs).flatten).toArray := by
      apply Array.toList_inj.1
      have h7 : cur.toList.take (n * zs.length) = cur.toList := List.take_of_length_le (by simp only [Array.length_toList]; omega)
      rw [← h7, h6, hz, madeCells_flat18 zs n hpos]
    subst this
    exact hh
theorem own_grownM2 {w w' : World} {B : Nat} {e : TypeId} {size n : Nat} {v : Value} {xs : List Value} {x : Nat} (h : w.ownsRow B e size v n xs) (hg : w.grownBy w' (some x)) (hx : v.ownBlock ≠ some x) : w'.ownsRow B e size v n xs := by
  obtain ⟨h1, h2⟩ := h
  refine ⟨h1, ?_⟩
  rcases h2 with h2 | ⟨g, cap, cur, hv, hg', hh, r⟩
  · exact .inl h2
  · exact .inr ⟨g, cap, cur, hv, hg', by rw [hg.block g (Array.getElem?_eq_some_iff.1 hh).1 (by intro e; rw [hv] at hx; exact hx e)]; exact hh, r⟩
theorem own_cap {w : World} {B : Nat} {e : TypeId} {size n m c : Nat} {A : Option Addr} {xs : List Value} (h : w.ownsRow B e size (.slice A m c) n xs) : n ≤ c := by
  obtain ⟨A', c', e2, hc, -⟩ := own_rdM h
  cases e2
  exact hc
theorem own_frame {w w1 w' : World} {B : Nat} {e : TypeId} {size n : Nat} {v : Value} {xs : List Value} (h : w.ownsRow B e size v n xs) (hg : w1.grownBy w' v.ownBlock) (hs : B ≤ w1.heap.size) : Below B w1 w' :=
  (Below.refl _ _).grown hg hs (by
    intro k hk
    obtain ⟨h1, h2⟩ := h
    rcases h2 with ⟨rfl, h0⟩ | ⟨g, cap, cur, rfl, a, b, c, d, e1, f⟩
    · cases hk
    · cases hk; exact a)
theorem new_at (T : TypeId) (W : World) (X : List Value) : ∀ j u, X[j]? = some u → (W.alloc (.cells X.toArray T)).cell? ((⟨W.heap.size, 0, none⟩ : Addr).add j) = some u := fun j u hu => by
  have h := (Row.new W T X.toArray).cell j
  rw [add_lit, Nat.zero_add, h]
  simpa using hu
def chE : Nat → List En
  | 0 => []
  | 1 => [ent1]
  | _ => [ent1, ent2]
def chM : Nat → Mk
  | 0 => mk0
  | 1 => markE ent1
  | _ => markE ent2
theorem chain_step (k : Nat) (h : k < 2) : ∃ e : En, nextS9 (chM k) base18 = e ∧ e.fits ∧ markE e = chM (k + 1) ∧ chE (k + 1) = chE k ++ [e] := by
  match k, h with
  | 0, _ => exact ⟨ent1, rfl, ent1_fits, rfl, rfl⟩
  | 1, _ => exact ⟨ent2, rfl, ent2_fits, rfl, rfl⟩
theorem chE_len (k : Nat) : (chE k).length ≤ 2 := by
  match k with
  | 0 => decide
  | 1 => decide
  | _ + 2 => exact Nat.le_refl _
set_option maxHeartbeats 4000000 in
theorem chain_any (w : World) (hfd : Fd w) : Calls Tryd.prog 13 #[.int .i64 2] w (EQ18 w [ent1, ent2]) := by
  have HZE := hid esize
  have HZK := hid msize
  have HNX := hid (fun (m : Mk) (W : World) => next_any m base18 W (by decide))
  have HMK := hid (fun (e : En) (he : e.fits) (W : World) (hW : Below w.heap.size w W) => emark_any e he W (hfd.below hW hfd.1))
  have HCS := hid chain_step
  obtain ⟨i0, hi, hz0, hz1, hz2⟩ := info_parts infoEn
  have HO0 : Hid ((w.alloc (.cells #[] 30)).ownsRow w.heap.size 30 9 (.slice (some ⟨w.heap.size, 0, none⟩) 0 0) 0 []) := hid (own_emptyM (Row.new w _ _) (Nat.le_refl _))
  have HB0 : Hid (Below w.heap.size w (w.alloc (.cells #[] 30))) := hid ((Below.refl _ _).alloc (Nat.le_refl _) _)
  clear hfd
  go_enter Tryd.func13, Tryd.ntmps13
  go_wp2_with (first
      | ((with_reducible show wpList _ _ _ ({ dst := none, op := .store _ (.tmp 4) (.tmp 8), type := _, pos := _, after := _, guard := _ } :: _) _ _); refine wpl_store_st rfl (.tmp 4) (.tmp 8) rfl HZK.out (w.heap.size + 1) (#[.int .i64 0, .int .i64 0, .int .u64 0]) (mk0.cells) rfl rfl (by have h := Row.new (w.alloc (.cells #[] 30)) 27 #[.int .i64 0, .int .i64 0, .int .u64 0]; rw [World.size_alloc] at h; exact h) ?_ (hid (by first | rfl | simp)) (hid (by first | rfl | simp)) (hid (mcells_one _)); intro w1 hr1 hg; have RK := hid hr1; have HB1 := hid ((HB0.out.alloc HB0.out.size (.cells #[.int .i64 0, .int .i64 0, .int .u64 0] 27)).trans (below_grown hg (by omega) (by simp; omega))); have HO1 := hid (own_grownM2 (own_allocM HO0.out (.cells #[.int .i64 0, .int .i64 0, .int .u64 0] 27)) hg (by intro x; have : w.heap.size = w.heap.size + 1 := Option.some.inj x; omega)); clear hr1 hg))
  go_loopw [3, 5] (fun v i wr => ∃ k : Nat, k ≤ 2 ∧ i = .int .i64 (k : Int) ∧ ∃ g c, v = .slice (some ⟨g, 0, none⟩) (chE k).length c ∧ Hid (g ≠ w.heap.size + 1) ∧ Hid (g < wr.heap.size) ∧ Hid ((chE k).length ≤ c) ∧ Hid (wr.ownsRow w.heap.size 30 9 v (chE k).length (rws enC (chE k))) ∧ Hid (Row wr (w.heap.size + 1) 27 (chM k).cells.toList) ∧ Hid (Below w.heap.size w wr)) (fun _ i _ => 2 - (intOf i).toNat)
  case atStart => exact ⟨0, by omega, rfl, w.heap.size, 0, rfl, hid (by omega), hid (by have := RK.out.lt; omega), hid (Nat.le_refl _), HO1, RK, HB1⟩
  case round =>
    clear HO0 HB0 HO1 RK HB1
    obtain ⟨k, hk, rfl, g, c, rfl, HG, HGL, HC, HO, RK, HBE⟩ := hrel
    by_cases hlt : k < 2
    · have hi1 : (k : Int) < 2 := by omega
      have hi0 : (0 : Int) ≤ (k : Int) := by omega
      obtain ⟨e, h1, h2, h3, h4⟩ := HCS.out k hlt
      have HN1 := hid (HNX.out (chM k))
      rw [h1] at HN1
      have HM1 := hid (HMK.out e h2)
      rw [h3] at HM1
      have HEN := hid h4
      have HEL := hid (chE_len k)
      have HLT : Hid (w.heap.size + 1 < wr.heap.size) := hid RK.out.lt
      have HSZ : Hid (e.cells.size = 9) := hid rfl
      have HLN : Hid ((chE (k + 1)).length = (chE k).length + 1) := hid (by rw [h4, List.length_append]; rfl)
      obtain ⟨mk, hmk⟩ : ∃ x, chM (k + 1) = x := ⟨_, rfl⟩
      rw [hmk] at HM1
      have HMK2 := hid hmk
      clear hmk
      generalize chM k = m at *
      generalize chE k = es at *
      clear h1 h2 h3 h4 HCS HNX HMK
      go_wp2_with (first
        | ((with_reducible show wpList _ _ _ ({ dst := some 14, op := _, type := _, pos := _, after := _, guard := _ } :: _) _ _); refine wpList_load_row rfl 27 (.tmp 4) rfl (w.heap.size + 1) rfl 27 (m.cells) (0, 0) _ (Row.arr RK.out) Tryd.underlying27 rfl HZK.out ?_)
        | (go_at_call 9; refine (HN1.out _).mono ?_; rintro x w1 ⟨rfl, hb⟩; have HB1 := hid (HBE.out.trans (hb.mono HBE.out.size)); have RK1 := hid (RK.out.below hb RK.out.lt); have HO1 := hid (own_belowM HO.out hb); have HW1 := hid hb.size; clear hb)
        | ((with_reducible show wpList _ _ _ ({ dst := none, op := .store _ (.tmp 6) (.tmp 16), type := _, pos := _, after := _, guard := _ } :: _) _ _); refine wpl_store_st rfl (.tmp 6) (.tmp 16) rfl HZE.out (w1.heap.size) (#[.int .i64 0, .int .i64 0, .int .i64 0, .int .u64 0, .int .i64 0, .int .i64 0, .int .i64 0, .int .i64 0, .string ⟨#[]⟩]) (e.cells) rfl rfl (Row.new _ _ _) ?_ (hid (by first | rfl | simp)) (hid (by first | rfl | simp)) (hid (ecells_one _)); intro w2 hr2 hg; have RE := hid hr2; have hb : Below w1.heap.size w1 w2 := ((Below.refl _ _).alloc (Nat.le_refl _) (.cells #[.int .i64 0, .int .i64 0, .int .i64 0, .int .u64 0, .int .i64 0, .int .i64 0, .int .i64 0, .int .i64 0, .string ⟨#[]⟩] 30)).trans (below_grown hg (Nat.le_refl _) (by simp)); have HB2 := hid (HB1.out.trans (hb.mono HB1.out.size)); have RK2 := hid (RK1.out.below hb RK1.out.lt); have HO2 := hid (own_belowM HO1.out hb); have HW2 := hid (Nat.le_trans HW1.out hb.size); clear hr2 hg hb)
        | ((with_reducible show wpList _ _ _ ({ dst := some 17, op := _, type := _, pos := _, after := _, guard := _ } :: _) _ _); refine wpList_load_row rfl 30 (.tmp 6) rfl (w1.heap.size) rfl 30 (e.cells) (0, 0) _ (Row.arr RE.out) Tryd.underlying30 rfl (by rw [HSZ.out]; exact HZE.out) ?_)
        | (go_at_call 11; refine (HM1.out _ HB2.out).mono ?_; rintro x w3 ⟨rfl, hb⟩; have HB3 := hid (HB2.out.trans (hb.mono HB2.out.size)); have RK3 := hid (RK2.out.below hb RK2.out.lt); have HO3 := hid (own_belowM HO2.out hb); have HW3 := hid (Nat.le_trans HW2.out hb.size); have RE3 := hid (RE.out.below hb RE.out.lt); clear hb)
        | ((with_reducible show wpList _ _ _ ({ dst := none, op := .store _ (.tmp 4) (.tmp 18), type := _, pos := _, after := _, guard := _ } :: _) _ _); refine wpl_store_st rfl (.tmp 4) (.tmp 18) rfl HZK.out (w.heap.size + 1) (m.cells) (mk.cells) rfl rfl (RK3.out) ?_ (hid (by first | rfl | simp)) (hid (by first | rfl | simp)) (hid (mcells_one _)); intro w4 hr4 hg; have RK4 := hid hr4; have HB4 := hid (HB3.out.trans (below_grown hg (by omega) HB3.out.size)); have HO4 := hid (own_grownM2 HO3.out hg (by intro x; have := HG.out; have : g = w.heap.size + 1 := Option.some.inj x; omega)); have RE4 := hid (RE3.out.grown hg (by intro x; have := Option.some.inj x; have := HW1.out; have := HLT.out; omega)); have HW4 := hid (Nat.le_trans HW3.out hg.size); clear hr4 hg)
        | ((with_reducible show wpList _ _ _ ({ dst := some 20, op := _, type := _, pos := _, after := _, guard := _ } :: _) _ _); refine wpList_load_row rfl 30 (.tmp 6) rfl (w1.heap.size) rfl 30 (e.cells) (0, 0) _ (Row.arr RE4.out) Tryd.underlying30 rfl (by rw [HSZ.out]; exact HZE.out) ?_)
        | (refine wpl_slice1M rfl 31 30 (.tmp 20) rfl i0 _ 9 Tryd.underlying31 hi hz0 hz1 (by decide) (by decide) (Array.toList e.cells) rfl rfl ?_)
        | (refine wpList_append_lies _ rfl (.tmp 19) (.tmp 21) 31 rfl w.heap.size 30 i0 _ 9 80 Tryd.underlying31 hi hz0 hz1 hz2 rfl (by decide) (.slice (some ⟨g, 0, none⟩) es.length c) es.length _ rfl (own_allocM HO4.out _) ⟨w4.heap.size, 0, none⟩ 1 1 (Array.toList e.cells) rfl rfl (new_at 30 w4 (Array.toList e.cells)) (en_one e) (by decide) (le_maxLen (by have := HEL.out; omega)) (by have := HEL.out; omega) (by have := HB4.out.size; simp; omega) _ rfl ?_; intro g9 c9 w9 own9 hg9 hor9 hlt9; have HO9 := hid own9; have HGL9 := hid hlt9; have hc9 := own_cap own9; have HG9 : Hid (g9 ≠ w.heap.size + 1) := hid (by rcases hor9 with x | x; (have := HG.out; have := HGL.out; have : g = g9 := Option.some.inj x; omega); (have := HW4.out; have := HLT.out; simp at x; omega)); have RK9 := hid ((RK4.out.alloc (.cells (Array.toList e.cells).toArray 30)).grown hg9 (by intro x; have := HG.out; have : w.heap.size + 1 = g := Option.some.inj x; omega)); have HB9 := hid ((HB4.out.alloc HB4.out.size (.cells (Array.toList e.cells).toArray 30)).trans (own_frame HO4.out hg9 (by have := HB4.out.size; simp; omega))); clear own9 hg9 hor9 hlt9))
      go_roundw
      case rel =>
        refine ⟨k + 1, by omega, by go_num, g9, c9, by rw [HLN.out], HG9, HGL9, hid (by rw [HLN.out]; exact hc9), ?_, by rw [HMK2.out]; exact RK9, HB9⟩
        refine hid ?_
        rw [HEN.out, rws_app, rws_one, List.length_append]
        exact HO9.out
      case measure => simp [intOf]; omega
    · obtain rfl : k = 2 := by omega
      go_wp2_with fail
      go_ret
      exact ⟨_, c, rfl, HC.out, HBE.out, HO.out⟩
/-! ### log -/
abbrev itC (x : It) : List Value := x.cells.toList
/-- what log answers: its items lie in a row of their own -/
def LG18 (w : World) (who view : Int) (es : List En) (e : Ending) (w' : World) : Prop :=
  ∃ g, e = .returned (.agg ((logL who view es).cells ⟨none, 0, some ⟨g, 0, none⟩, 8⟩)) ∧ w.heap.size ≤ g ∧ Row w' g 51 (rws itC (logL who view es).xs) ∧ Below w.heap.size w w'
def itK (es : List En) (k : Nat) : List It := (es.take k).map holdC ++ List.replicate (8 - k) it0
theorem itK_len (es : List En) (k : Nat) (h : k ≤ es.length) (h8 : es.length ≤ 8) : (itK es k).length = 8 := by
  unfold itK
  rw [List.length_append, List.length_map, List.length_take, List.length_replicate]
  omega
theorem itK_end (who view : Int) (es : List En) : itK es es.length = (logL who view es).xs := by
  unfold itK
  rw [List.take_length]
  rfl
theorem rws_splice {α : Type} (C : α → List Value) (n : Nat) (hC : ∀ x, (C x).length = n) (l : List α) (k : Nat) (x : α) (h : k < l.length) : splice (rws C l) (k * n) (C x) = rws C (l.set k x) := by
  have hl := rws_len hC
  have e0 : l = l.take k ++ l[k] :: l.drop (k + 1) := by rw [List.getElem_cons_drop, List.take_append_drop]
  have e1 : l.set k x = l.take k ++ x :: l.drop (k + 1) := by rw [List.set_eq_take_append_cons_drop, if_pos h]
  have hk : (l.take k).length = k := by rw [List.length_take]; omega
  rw [e1]
  conv => lhs; rw [e0]
  have c1 : ∀ (y : α) (r : List α), rws C (y :: r) = C y ++ rws C r := fun y r => by simp [rws]
  rw [rws_app, rws_app, c1, c1]
  have h1 := hl (l.take k)
  rw [hk] at h1
  unfold splice
  rw [List.take_append_of_le_length (by omega), List.take_of_length_le (by omega)]
  congr 1
  congr 1
  rw [List.drop_append, List.drop_of_length_le (by rw [h1, hC]; omega), List.nil_append, List.drop_append, hC, hC, h1]
  rw [List.drop_of_length_le (by rw [hC]; omega), List.nil_append]
  rw [show k * n + n - k * n - n = 0 by omega]
  rfl
theorem itK_set (es : List En) (k : Nat) (h : k < es.length) (h8 : es.length ≤ 8) : (itK es k).set k (holdC es[k]) = itK es (k + 1) := by
  unfold itK
  have hl : ((es.take k).map holdC).length = k := by rw [List.length_map, List.length_take]; omega
  rw [List.set_append_right _ _ (by omega), hl, Nat.sub_self]
  obtain ⟨d, hd⟩ : ∃ d, 8 - k = d + 1 := ⟨7 - k, by omega⟩
  have hd2 : 8 - (k + 1) = d := by omega
  rw [hd, hd2, List.replicate_succ, List.set_cons_zero, List.take_succ_eq_append_getElem h, List.map_append, List.append_assoc]
  rfl
set_option maxHeartbeats 8000000 in
theorem log_any18 (who view : Int) (es : List En) (A : Option Addr) (n c B : Nat) (w : World) (hr : Rd w B A (rws enC es)) (hn : n = es.length) (hc : n ≤ c) (hB : B ≤ w.heap.size) (h8 : es.length ≤ 8) (hf : ∀ e ∈ es, e.fits ∧ Rt e) (hfd : Fd w) :
    Calls Tryd.prog 12 #[.int .i64 who, .int .i64 view, .slice A n c] w (LG18 w who view es) := by
  have hz := zero33
  have hzs := z33_size
  have hzn := z33_ne
  have HZS := hid mssize
  have HZE := hid esize
  have HZI := hid isize
  have HN := hid hn
  have hn8 : n ≤ 8 := by omega
  have HR : Hid (∀ W, Below w.heap.size w W → Rd W B A (rws enC es)) := hid fun W hW => hr.below hW hB
  have HSB := hid (fun (e : En) (he : e ∈ es) (W : World) (hW : Below w.heap.size w W) => sstub_any e (hf e he).1 W (hfd.below hW hfd.1))
  have HIS := hid (fun (k : Nat) (h : k < es.length) => itK_set es k h h8)
  have HIL := hid (fun (k : Nat) (h : k ≤ es.length) => itK_len es k h h8)
  have HIE := hid (itK_end who view es)
  obtain ⟨i0, hi, hz0, hz1, hz2⟩ := info_parts infoIt
  have HB0 : Hid (Below w.heap.size w (w.alloc (.cells z33 34))) := hid ((Below.refl _ _).alloc (Nat.le_refl _) _)
  have R0 : Hid (Row (w.alloc (.cells z33 34)) w.heap.size 34 z33.toList) := hid (Row.new _ _ _)
  obtain ⟨X, hX⟩ : ∃ X, X = logL who view es := ⟨_, rfl⟩
  have HXC : Hid (∀ g : Nat, X.cells ⟨none, 0, some ⟨g, 0, none⟩, 8⟩ = #[.int .i64 7, .int .i64 who, .int .i64 9, .int .i64 view, .int .i64 0, .int .i64 0, .int .i64 0, .int .i64 0, .int .i64 0, .int .i64 0, .int .i64 0, .int .i64 0, .int .i64 0, .int .i64 0, .int .u64 0, .int .u64 0, .int .u64 0, .int .u64 0, .int .u64 0, .int .u64 0, .int .u64 0, .int .i64 0, .int .i64 0, .int .i64 0, .int .u64 0, .int .i64 0, .int .i64 0, .int .i64 0, .int .i64 0, .string ⟨#[]⟩, .slice none 0 0, .slice (some ⟨g, 0, none⟩) 8 8, .string ⟨#[]⟩]) := hid (fun g => by
    have hl : (logL who view es).xs.length = 8 := by rw [← itK_end, itK_len es _ (Nat.le_refl _) h8]
    subst hX
    unfold Ms.cells
    rw [hl]
    rfl)
  rw [← hX] at HIE
  show Calls _ _ _ _ (LG18 w who view es)
  have HLG : Hid (∀ e w', (∃ g, e = .returned (.agg (X.cells ⟨none, 0, some ⟨g, 0, none⟩, 8⟩)) ∧ w.heap.size ≤ g ∧ Row w' g 51 (rws itC X.xs) ∧ Below w.heap.size w w') → LG18 w who view es e w') := hid (by rw [hX]; exact fun _ _ h => h)
  clear hr hf hfd hX h8 hn
  go_enter Tryd.func12, Tryd.ntmps12
  go_wp2_with (first
      | ((with_reducible show wpList _ _ _ ({ dst := some 11, op := _, type := _, pos := _, after := _, guard := _ } :: _) _ _); refine wpl_make_big18 rfl _ _ _ rfl 51 i0 _ (itC it0) Tryd.underlying32 hi hz0 hz1 rfl (by decide) _ _ 8 8 8 rfl rfl ?_ (hid rfl) (hid rfl) (hid (by rw [hz2]; decide)) (hid (by decide)); intro g w1 HG hr1 hg; have RI := hid hr1; have HG2 := hid (show g = w.heap.size + 1 by rw [HG.out]; simp); have HB1 := hid (HB0.out.trans ((Below.refl _ _).grown hg (by simp) (by intro k hk; cases hk))); have R1 := hid (R0.out.grown hg (by intro x; cases x)); have hgl := hr1.lt; clear hr1 hg)
      | ((with_reducible show wpList _ _ _ ({ dst := none, op := .store _ (.tmp 7) (.tmp 12), type := _, pos := _, after := _, guard := _ } :: _) _ _); refine wpl_store_st rfl (.tmp 7) (.tmp 12) rfl HZS.out (w1.heap.size) (z33) (X.cells ⟨none, 0, some ⟨g, 0, none⟩, 8⟩) rfl (by rw [HXC.out g]; rfl) (Row.new _ _ _) ?_ (hid (by first | rfl | simp)) (hid (by first | rfl | simp)) (hid (msc_one _ _)); intro w2 hr2 hg; have RM := hid hr2; have hb : Below w1.heap.size w1 w2 := ((Below.refl _ _).alloc (Nat.le_refl _) (.cells z33 34)).trans (below_grown hg (Nat.le_refl _) (by simp)); have HB2 := hid (HB1.out.trans (hb.mono HB1.out.size)); have R2 := hid (R1.out.below hb R1.out.lt); have RI2 := hid (RI.out.below hb RI.out.lt); have HGL := hid hgl; clear hr2 hg hb hgl))
  have HM1 : Hid (w.heap.size + 1 < w1.heap.size) := hid (by have := HGL.out; have := HG2.out; omega)
  go_loopw [8] (fun i wr => ∃ k : Nat, k ≤ n ∧ i = .int .i64 (k : Int) ∧ Hid (Row wr g 51 (rws itC (itK es k))) ∧ Hid (Row wr w1.heap.size 34 (X.cells ⟨none, 0, some ⟨g, 0, none⟩, 8⟩).toList) ∧ Hid (Row wr w.heap.size 34 z33.toList) ∧ Hid (Below w.heap.size w wr)) (fun i _ => n - (intOf i).toNat)
  case atStart => exact ⟨0, by omega, by rfl, RI2, RM, R2, HB2⟩
  case round =>
    clear RI2 R2 HB2 RM R1 HB1 RI R0 HB0
    obtain ⟨k, hk, rfl, RI, RM, R0, HBE⟩ := hrel
    by_cases hlt : k < n
    · have hkl : k < es.length := by rw [← HN.out]; exact hlt
      obtain ⟨ge, oe, rfl, hge, -⟩ := rws_at (n := 9) (fun _ => rfl) (HR.out wr HBE.out) k hkl (by omega)
      have HRG : Hid (∀ W, Below w.heap.size w W → W.rangeAt ge (oe + k * 9) (Array.toList es[k].cells)) := hid fun W hW => by
        obtain ⟨g', o', e', -, h⟩ := rws_at (n := 9) (fun _ => rfl) (HR.out W hW) k hkl (by omega)
        cases e'
        exact h
      have HS1 := hid (HSB.out es[k] (List.getElem_mem hkl))
      have HNX := hid (HIS.out k hkl)
      have HLL := hid (HIL.out k (Nat.le_of_lt hkl))
      have hi1 : (k : Int) < (n : Int) := by omega
      have hi8 : (k : Int) < 8 := by omega
      have hi0 : (0 : Int) ≤ (k : Int) := by omega
      have hk8 : k < 8 := by omega
      have C31 : Hid (∀ W, Row W w1.heap.size 34 (X.cells ⟨none, 0, some ⟨g, 0, none⟩, 8⟩).toList → W.cell? ⟨w1.heap.size, 31, none⟩ = some (.slice (some ⟨g, 0, none⟩) 8 8)) := hid fun W h => (h.cell 31).trans (by rw [HXC.out]; rfl)
      have HHC : Hid (holdC es[k] = ⟨1, stubS es[k], es[k]⟩) := hid rfl
      rw [HHC.out] at HNX
      generalize es[k] = e at *
      generalize stubS e = s at *
      generalize X.cells ⟨none, 0, some ⟨g, 0, none⟩, 8⟩ = XC at *
      clear hge HR HSB HIS HIL HHC HXC
      go_wp2_with fail
      have HZD := hid R0.out.drew
      have RID := hid RI.out.drew
      refine wp_region_held_drew (S := (fun W => Row W w1.heap.size 34 XC.toList ∧ Below w.heap.size w W)) (by kernel_rfl) (⟨RM.out.drew, HBE.out.drew⟩) (fun hH => ?_)
      refine tk_ (i := 0) (v := .pointer (some ⟨w1.heap.size, 31, none⟩)) rfl (Or.inl ⟨by rfl, fun w' hw' => by clear hw'; go_simp⟩) hH ?_
      simp only [Act.put, la1, la3, la4, la5, la6]
      refine tk_ (i := 1) (v := .slice (some ⟨g, 0, none⟩) 8 8) rfl (Or.inl ⟨by rfl, fun w' hw' => by have h := C31.out w' hw'.1; clear hw'; go_simp⟩) hH ?_
      simp only [Act.put, la1, la2, la3, la4, la5, la6]
      refine tk_ (i := 2) (v := .int .i64 (k : Int)) rfl (Or.inl ⟨by rfl, fun w' hw' => by clear hw'; go_simp⟩) hH ?_
      simp only [Act.put, la1, la2, la3, la4, la5, la6]
      refine tk_ (i := 3) (v := .slice (some ⟨ge, oe, none⟩) n c) rfl (Or.inl ⟨by rfl, fun w' hw' => by clear hw'; go_simp⟩) hH ?_
      simp only [Act.put, la1, la2, la3, la4, la5, la6]
      refine tk_ (i := 4) (v := .int .i64 (k : Int)) rfl (Or.inl ⟨by rfl, fun w' hw' => by clear hw'; go_simp⟩) hH ?_
      simp only [Act.put, la1, la2, la3, la4, la5, la6]
      refine tk_ (i := 5) (v := .pointer (some ⟨ge, oe + k * 9, none⟩)) rfl (Or.inl ⟨by rfl, fun w' hw' => by clear hw'; go_simp⟩) hH ?_
      simp only [Act.put, la1, la2, la3, la4, la5, la6]
      refine tk_ (i := 6) (v := .agg (e.cells)) rfl (yieldsIf_load_mid rfl 30 (.tmp 24) rfl (ge) (oe + k * 9) rfl (Array.toList (e.cells)) _ (fun W hW => HRG.out W hW.2) Tryd.underlying30 rfl (by exact HZE.out)) hH ?_
      simp only [Act.put, la1, la2, la3, la4, la5, la6]
      refine tk_ (i := 8) (v := .slice (some ⟨ge, oe, none⟩) n c) rfl (Or.inl ⟨by rfl, fun w' hw' => by clear hw'; go_simp⟩) hH ?_
      simp only [Act.put, la1, la2, la3, la4, la5, la6]
      refine tk_ (i := 9) (v := .int .i64 (k : Int)) rfl (Or.inl ⟨by rfl, fun w' hw' => by clear hw'; go_simp⟩) hH ?_
      simp only [Act.put, la1, la2, la3, la4, la5, la6]
      refine tk_ (i := 10) (v := .pointer (some ⟨ge, oe + k * 9, none⟩)) rfl (Or.inl ⟨by rfl, fun w' hw' => by clear hw'; go_simp⟩) hH ?_
      simp only [Act.put, la1, la2, la3, la4, la5, la6]
      refine tk_ (i := 11) (v := .agg (e.cells)) rfl (yieldsIf_load_mid rfl 30 (.tmp 29) rfl (ge) (oe + k * 9) rfl (Array.toList (e.cells)) _ (fun W hW => HRG.out W hW.2) Tryd.underlying30 rfl (by exact HZE.out)) hH ?_
      simp only [Act.put, la1, la2, la3, la4, la5, la6]
      refine rd1 (i := 7) (by kernel_rfl) rfl (fun K hK => ?_)
      go_simp
      go_at_call 25
      refine (HS1.out _ hH.2).mono ?_
      rintro x w3 ⟨rfl, hb⟩
      go_wp2_with fail
      have hZ3 := HZD.out.below hb HZD.out.lt
      have RI3 := RID.out.below hb RID.out.lt
      refine hK.out _ _ (⟨hH.1.below hb hH.1.lt, hH.2.trans (hb.mono hH.2.size)⟩) (fun hH => ?_)
      clear hK K
      try simp only [Act.put, la1, la2, la3, la4, la5, la6]
      refine tk_ (i := 12) (v := .agg (⟨1, s, e⟩ : It).cells) rfl (Or.inl ⟨by kernel_rfl, fun w' _ => by kernel_rfl⟩) hH ?_
      simp only [Act.put, la1, la2, la3, la4, la5, la6]
      refine tk_ (i := 13) (v := .pointer (some ⟨g, k * 15, none⟩)) rfl (Or.inl ⟨by rfl, fun w' hw' => by clear hw'; go_simp⟩) hH ?_
      simp only [Act.put, la1, la2, la3, la4, la5, la6]
      refine rd1 (i := 14) (by kernel_rfl) rfl (fun K hK => ?_)
      obtain ⟨hM8, hb8⟩ := hH
      rw [if_pos (by kernel_rfl)]
      have hlen8 : (rws itC (itK es k)).length = 120 := by rw [rws_len (n := 15) (fun _ => rfl), HLL.out]
      obtain ⟨RX, hg8⟩ := setCellsM RI3 (⟨1, s, e⟩ : It).cells.toList (k * 15) (by rw [hlen8]; simp [It.cells]; omega)
      refine wp_store_mid 51 (.tmp 32) (.tmp 31) rfl g (k * 15) (⟨1, s, e⟩ : It).cells rfl rfl (thereM RI3 _ _ (by rw [hlen8]; simp [It.cells]; omega)) HZI.out (itc_one _) ?_
      rw [rws_splice itC 15 (fun _ => rfl) (itK es k) k ⟨1, s, e⟩ (by rw [HLL.out]; exact hk8), HNX.out] at RX
      have hb9 := hb8.trans (below_grown hg8 (by have := HG2.out; omega) hb8.size)
      have hM9 := hM8.grown hg8 (by intro x; have := Option.some.inj x; have := HM1.out; have := HG2.out; omega)
      have hZ9 := hZ3.grown hg8 (by intro x; have := Option.some.inj x; have := HG2.out; omega)
      refine hK.out _ _ ⟨hM9, hb9⟩ (fun hH => ?_)
      clear hK K hH
      try simp only [Act.put, la1, la2, la3]
      refine wpAnyH_done (by kernel_rfl) ?_ _
      try simp only [Act.put, la1, la2, la3, la4, la5, la6]
      go_wp2_with fail
      go_roundw
      case rel => exact ⟨k + 1, by omega, by go_num, hid RX, hid hM9, hid hZ9, hid hb9⟩
      case measure => simp [intOf]; omega
    · obtain rfl : k = n := by omega
      rw [HN.out, HIE.out] at RI
      go_wp2_with (first
        | ((with_reducible show wpList _ _ _ ({ dst := some 33, op := _, type := _, pos := _, after := _, guard := _ } :: _) _ _); refine wpList_load_row rfl 34 (.tmp 7) rfl (w1.heap.size) rfl 34 (X.cells ⟨none, 0, some ⟨g, 0, none⟩, 8⟩) (0, 0) _ (Row.arr RM.out) Tryd.underlying34 rfl HZS.out ?_)
        | ((with_reducible show wpList _ _ _ ({ dst := none, op := .store _ (.tmp 6) (.tmp 33), type := _, pos := _, after := _, guard := _ } :: _) _ _); refine wpl_store_st rfl (.tmp 6) (.tmp 33) rfl HZS.out (w.heap.size) (z33) (X.cells ⟨none, 0, some ⟨g, 0, none⟩, 8⟩) rfl rfl (R0.out) ?_ (hid (by first | rfl | simp)) (hid (by first | rfl | simp)) (hid (msc_one _ _)); intro w9 hr9 hg9))
      exact bodyPost_ret (v := .agg (X.cells ⟨none, 0, some ⟨g, 0, none⟩, 8⟩)) (results_cell_row rfl _ _ w.heap.size 34 (X.cells ⟨none, 0, some ⟨g, 0, none⟩, 8⟩) (0, 0) _ rfl (Row.arr (cs := X.cells ⟨none, 0, some ⟨g, 0, none⟩, 8⟩) hr9) Tryd.underlying34 rfl HZS.out) rfl (HLG.out _ _ ⟨g, rfl, by have := HG2.out; omega, RI.out.grown hg9 (by intro x; have := Option.some.inj x; have := HG2.out; omega), HBE.out.trans (below_grown hg9 (Nat.le_refl _) HBE.out.size)⟩)
end Go.Proofs.YteahbalcielhpaaDoor
