/-
  Sessions that are alike; the walk of the document's Same, of equal lists.
-/
import Derived.Test.YtgednnjmcjhfmaaGreatDoorM11
import Derived.Test.YtgednnjmcjhfmaaGreatDoorM02
import Derived.Test.YtgednnjmcjhfmaaGreatDoorM18
import Derived.Deep.RegionLaw
import Derived.BigRegion
import Derived.BigQuiet
import Derived.Deep.QuietTactic
import Derived.Great.BuildSlice
namespace Go.Proofs.YtgednnjmcjhfmaaGreatDoor
open Go.RowKit
set_option maxRecDepth 10000
set_option maxHeartbeats 80000000
theorem eqF_str {P : Program} {W : World} (d : Nat) (xs ys : Array Value) (f : Field) (fs : List Field) (a : ByteArray) (hn : f.name ≠ "_") (hx : (Go.part f.type xs f.offset).run P W = .ok (.string a) W) (hy : (Go.part f.type ys f.offset).run P W = .ok (.string a) W) (ht : P.underlying f.type = some .string) :
  (Op.eqFields (d + 1) xs ys (f :: fs)).run P W = (Op.eqFields (d + 1) xs ys fs).run P W := by
 simp only [Op.eqFields, if_pos hn, Sem.run_bind, hx, hy, Result.andThen_ok, run_equalIn_string W d f.type a a ht]
 simp
theorem part_str {P : Program} {W : World} (t : TypeId) (xs : Array Value) (i : Nat) (v : Value) (ht : P.underlying t = some .string) (hs : (P.info? t).map (·.size) = some 1) (hv : xs[i]? = some v) : (Go.part t xs i).run P W = .ok v W := by
 obtain ⟨j, hj, hjs⟩ := Option.map_eq_some_iff.1 hs
 simp [Go.part, isAgg, run_underlying ht, sizeOf, typeInfo, hj, hjs, hv]
theorem fieldsSs : (Tryz.prog.fieldsOf 75).toList = [{ name := "Client", type := 3, offset := 0, embedded := false, tag := "", pkgPath := "", byteOffset := 0 }, { name := "Session", type := 3, offset := 1, embedded := false, tag := "", pkgPath := "", byteOffset := 8 }, { name := "Request", type := 3, offset := 2, embedded := false, tag := "", pkgPath := "", byteOffset := 16 }, { name := "Op", type := 3, offset := 3, embedded := false, tag := "", pkgPath := "", byteOffset := 24 }, { name := "Reply", type := 9, offset := 4, embedded := false, tag := "", pkgPath := "", byteOffset := 32 }] := by kernel_rfl
theorem eqSs (x : Ss) (W : World) : (Op.equalIn 10000 75 (.agg x.cells.toArray) (.agg x.cells.toArray)).run Tryz.prog W = .ok true W := by
 rw [run_equalIn_struct W 9999 75 x.cells.toArray x.cells.toArray (by kernel_rfl) (by kernel_rfl), fieldsSs]
 have x0 : x.cells.toArray[0]? = some (.int .i64 x.c) := rfl
 have x1 : x.cells.toArray[1]? = some (.int .i64 x.s) := rfl
 have x2 : x.cells.toArray[2]? = some (.int .i64 x.r) := rfl
 have x3 : x.cells.toArray[3]? = some (.int .i64 x.o) := rfl
 have x4 : x.cells.toArray[4]? = some (.string x.t) := rfl
 generalize x.cells.toArray = X at *
 rw [eqF_int (P := Tryz.prog) (W := W) 9998 X X { name := "Client", type := 3, offset := 0, embedded := false, tag := "", pkgPath := "", byteOffset := 0 } _ .i64 x.c x.c (by simp) (part_int 3 X 0 _ .i64 Tryz.underlying3 sizeInt x0) (part_int 3 X 0 _ .i64 Tryz.underlying3 sizeInt x0) Tryz.underlying3, if_pos rfl]
 rw [eqF_int (P := Tryz.prog) (W := W) 9998 X X { name := "Session", type := 3, offset := 1, embedded := false, tag := "", pkgPath := "", byteOffset := 8 } _ .i64 x.s x.s (by simp) (part_int 3 X 1 _ .i64 Tryz.underlying3 sizeInt x1) (part_int 3 X 1 _ .i64 Tryz.underlying3 sizeInt x1) Tryz.underlying3, if_pos rfl]
 rw [eqF_int (P := Tryz.prog) (W := W) 9998 X X { name := "Request", type := 3, offset := 2, embedded := false, tag := "", pkgPath := "", byteOffset := 16 } _ .i64 x.r x.r (by simp) (part_int 3 X 2 _ .i64 Tryz.underlying3 sizeInt x2) (part_int 3 X 2 _ .i64 Tryz.underlying3 sizeInt x2) Tryz.underlying3, if_pos rfl]
 rw [eqF_int (P := Tryz.prog) (W := W) 9998 X X { name := "Op", type := 3, offset := 3, embedded := false, tag := "", pkgPath := "", byteOffset := 24 } _ .i64 x.o x.o (by simp) (part_int 3 X 3 _ .i64 Tryz.underlying3 sizeInt x3) (part_int 3 X 3 _ .i64 Tryz.underlying3 sizeInt x3) Tryz.underlying3, if_pos rfl]
 rw [eqF_str (P := Tryz.prog) (W := W) 9998 X X { name := "Reply", type := 9, offset := 4, embedded := false, tag := "", pkgPath := "", byteOffset := 32 } _ x.t (by simp) (part_str 9 X 4 _ Tryz.underlying9 sizeStr x4) (part_str 9 X 4 _ Tryz.underlying9 sizeStr x4) Tryz.underlying9]
 rw [eqF_nil]
theorem same_any (A A' : Option Addr) (l : List Ss) (n c c' B : Nat) (w : World) (hr : Rd w B A (rows Ss.cells l)) (hr' : Rd w B A' (rows Ss.cells l)) (hn : n = l.length) (hc : n ≤ c) (hc' : n ≤ c') (hB : B ≤ w.heap.size) (hb : n ≤ 140737488355328) :
  Calls Tryz.prog 15 #[.slice A n c, .slice A' n c'] w (VE w (.bool true)) := by
 by_cases h0 : n = 0
 ·
  subst h0
  clear hr hr'
  go_enter Tryz.func15, Tryz.ntmps15
  go_wp2_with fail
  go_loop [5] (fun i => i = .int .i64 0) (fun _ => 0)
  case atStart => rfl
  case round =>
   obtain rfl := hrel
   go_wp2_with fail
   go_ret
   exact ⟨rfl, Below.refl _ _⟩
 have hlen := rows_len (C := Ss.cells) Ss.len l
 obtain ⟨g, o, rfl, hg, hx⟩ := id hr (by intro e; rw [e] at hlen; simp at hlen; omega)
 obtain ⟨g', o', rfl, hg', hx'⟩ := id hr' (by intro e; rw [e] at hlen; simp at hlen; omega)
 clear hx hx' hlen
 have HR := hid hr
 have HR' := hid hr'
 have HN := hid hn
 have hEG : Tryz.prog.eqGuardType Tryz.prog.depth 75 = false := by kernel_rfl
 have HZ := hid ssSize
 clear hr hr' hn
 go_enter Tryz.func15, Tryz.ntmps15
 go_wp2_with fail
 go_loopw [5] (fun i wr => ∃ k : Nat, k ≤ n ∧ i = .int .i64 (k : Int) ∧ Below w.heap.size w wr) (fun i _ => n - (intOf i).toNat)
 case atStart => exact ⟨0, by omega, rfl, Below.refl _ _⟩
 case round =>
  obtain ⟨k, hk, rfl, hbe⟩ := hrel
  have HBE := hid hbe
  by_cases hlt : k < n
  ·
   have hkl : k < l.length := by rw [← HN.out]; exact hlt
   have hrg := fun W (hW : Below w.heap.size w W) => ((HR.out.below hW hB).range Ss.len k hkl)
   have hrg' := fun W (hW : Below w.heap.size w W) => ((HR'.out.below hW hB).range Ss.len k hkl)
   have hi : (k : Int) < (n : Int) := by omega
   have hi0 : (0 : Int) ≤ (k : Int) := by omega
   have hEQ := eqSs l[k]
   have hC4 : (Ss.cells l[k]).length = 5 := rfl
   generalize Ss.cells l[k] = X at *
   have HC4 := hid hC4
   have HRG := hid hrg
   have HRG' := hid hrg'
   clear hC4 hrg hrg' hbe
   go_wp2_with fail
   refine wp_region_held_drew (S := fun w' => Below w.heap.size w w') (by kernel_rfl) HBE.out.drew (fun hH => ?_)
   refine tk_ (i := 0) (v := .slice (some ⟨g, o, none⟩) n c) rfl (Or.inl ⟨by rfl, fun w' hw' => by clear hw' ; go_simp⟩) hH ?_
   simp only [Act.put]
   refine tk_ (i := 1) (v := .int .i64 (k : Int)) rfl (Or.inl ⟨by rfl, fun w' hw' => by clear hw' ; go_simp⟩) hH ?_
   simp only [Act.put]
   refine tk_ (i := 2) (v := .pointer (some ⟨g, o + k * 5, none⟩)) rfl (Or.inl ⟨by rfl, fun w' hw' => by clear hw' ; go_simp⟩) hH ?_
   simp only [Act.put]
   refine tk_ (i := 3) (v := .agg X.toArray) rfl (yieldsIf_load_mid rfl 75 (.tmp 19) rfl g (o + k * 5) rfl X _ (fun W hW => HRG.out W hW) Tryz.underlying75 rfl (by rw [HC4.out]; exact HZ.out)) hH ?_
   simp only [Act.put]
   refine tk_ (i := 4) (v := .slice (some ⟨g', o', none⟩) n c') rfl (Or.inl ⟨by rfl, fun w' hw' => by clear hw' ; go_simp⟩) hH ?_
   simp only [Act.put]
   refine tk_ (i := 5) (v := .int .i64 (k : Int)) rfl (Or.inl ⟨by rfl, fun w' hw' => by clear hw' ; go_simp⟩) hH ?_
   simp only [Act.put]
   refine tk_ (i := 6) (v := .pointer (some ⟨g', o' + k * 5, none⟩)) rfl (Or.inl ⟨by rfl, fun w' hw' => by clear hw' ; go_simp⟩) hH ?_
   simp only [Act.put]
   refine tk_ (i := 7) (v := .agg X.toArray) rfl (yieldsIf_load_mid rfl 75 (.tmp 23) rfl g' (o' + k * 5) rfl X _ (fun W hW => HRG'.out W hW) Tryz.underlying75 rfl (by rw [HC4.out]; exact HZ.out)) hH ?_
   simp only [Act.put]
   refine rd1 (i := 8) (by kernel_rfl) rfl (fun K hK => ?_)
   go_simp
   refine hK.out _ _ (hH) (fun hH => ?_)
   clear hK K
   try simp only [Act.put]
   refine wpAnyH_done (by kernel_rfl) ?_ _
   try simp only [Act.put]
   go_wp2_with fail
   exact ⟨⟨k + 1, by omega, by go_num, hH⟩, by simp [intOf]; omega⟩
  ·
   obtain rfl : k = n := by omega
   go_wp2_with fail
   go_ret
   exact ⟨rfl, HBE.out⟩
theorem zeroSs (w : World) : (zeroValue 75).run Tryz.prog w = .ok (.agg ss0.cells.toArray) w := by
 obtain ⟨i0, hi, hz0, hz1, hz2⟩ := info_parts ssInfo
 simp [zeroValue, typeInfo, hi, hz0]
/-- clear(s), s of one element -/
theorem run_clear_one {P : Program} (w : World) (t e ty : TypeId) (zs : List Value) (ht : P.underlying t = some (.slice e)) (hv : ∀ w, (zeroValue e).run P w = .ok (.agg zs.toArray) w) (h1 : ∀ u ∈ zs, u.oneCell' = true) (b o c : Nat) (hth : w.there b o zs.length) :
  (Builtin.clear_ #[t] ty #[.slice (some ⟨b, o, none⟩) 1 c]).run P w = .ok (.tuple #[]) (w.setCells b o zs) := by
 have hzc : (Builtin.zeroCells (Value.agg zs.toArray).cells 1).toList = zs := by
  simp only [Value.cells, Builtin.zeroCells, Nat.one_mul]
  apply List.ext_getElem
  ·
   simp
  ·
   intro i h1 h2
   simp [Nat.mod_eq_of_lt h2, h2]
 have hst := run_storeCells_cells (P := P) b o zs 0 w (fun j hj => (hth j hj).1) (fun j hj => (hth j hj).2) h1
 simp only [Nat.add_zero] at hst
 simp [Builtin.clear_, run_underlying ht, hv, hzc, hst]
theorem rows_drop {α : Type} {C : α → List Value} {n : Nat} (h : ∀ x, (C x).length = n) : ∀ (l : List α) (k : Nat), rows C (l.drop k) = (rows C l).drop (k * n)
 | [], k => by simp [rows]
 | x :: l, 0 => by simp [rows]
 | x :: l, k + 1 => by
  have := rows_drop h l k
  simp only [rows, List.drop_succ_cons, List.map_cons, List.flatten_cons] at this ⊢
  have e : (k + 1) * n = (C x).length + k * n := by rw [h x, Nat.add_mul]; omega
  rw [this, e, List.drop_length_add_append]
/-- the cells behind the two writes -/
theorem del_own {w : World} {B g cap i : Nat} {T : List Ss} (h : w.ownsRow B 75 5 (.slice (some ⟨g, 0, none⟩) T.length cap) T.length (rows Ss.cells T)) (hi : i < T.length) (zs : List Value) (hz : zs.length = 5) :
  ((w.setCells g (i * 5) (rows Ss.cells (T.drop (i + 1)))).setCells g ((T.length - 1) * 5) zs).ownsRow B 75 5 (.slice (some ⟨g, 0, none⟩) (T.length - 1) cap) (T.length - 1) (rows Ss.cells (T.eraseIdx i)) ∧
  w.grownBy ((w.setCells g (i * 5) (rows Ss.cells (T.drop (i + 1)))).setCells g ((T.length - 1) * 5) zs) (some g) ∧
  (w.setCells g (i * 5) (rows Ss.cells (T.drop (i + 1)))).there g ((T.length - 1) * 5) 5 ∧
  w.there g (i * 5) (rows Ss.cells (T.drop (i + 1))).length := by
 have hlen := rows_len (C := Ss.cells) Ss.len T
 have hdl : (rows Ss.cells (T.drop (i + 1))).length = (T.length - (i + 1)) * 5 := by rw [rows_len (C := Ss.cells) Ss.len, List.length_drop]
 have hel : (rows Ss.cells (T.eraseIdx i)).length = (T.length - 1) * 5 := by rw [rows_len (C := Ss.cells) Ss.len, List.length_eraseIdx, if_pos hi]
 rcases h.2 with ⟨hv, _⟩ | ⟨g', cap', cur, hv, hb, hh, h1, h2, h3, h4⟩
 ·
  cases hv
 ·
  simp only [Value.slice.injEq, Option.some.injEq, Addr.mk.injEq, and_true, true_and] at hv
  obtain ⟨rfl, rfl⟩ := hv
  have hr : Row w g 75 cur.toList := by unfold Row; simpa using hh
  have hcs : cur.toList.length = cap * 5 := by simpa using h3
  obtain ⟨r1, q1⟩ := hr.setCells (rows Ss.cells (T.drop (i + 1))) (i * 5) (by omega)
  have hsl : (splice cur.toList (i * 5) (rows Ss.cells (T.drop (i + 1)))).length = cap * 5 := by
   unfold splice
   simp only [List.length_append, List.length_take, List.length_drop]
   omega
  obtain ⟨r2, q2⟩ := r1.setCells zs ((T.length - 1) * 5) (by omega)
  refine ⟨⟨by rw [hel], .inr ⟨g, cap, (splice (splice cur.toList (i * 5) (rows Ss.cells (T.drop (i + 1)))) ((T.length - 1) * 5) zs).toArray, rfl, hb, r2, by omega, h2, ?_, ?_⟩⟩, gtrans q1 q2, r1.there _ _ (by omega), hr.there _ _ (by omega)⟩
  ·
   rw [List.size_toArray]
   unfold splice at hsl ⊢
   simp only [List.length_append, List.length_take, List.length_drop] at hsl ⊢
   omega
  ·
   have e1 : rows Ss.cells (T.eraseIdx i) = (rows Ss.cells T).take (i * 5) ++ rows Ss.cells (T.drop (i + 1)) := by
    rw [List.eraseIdx_eq_take_drop_succ, rows_app, rows_take Ss.len]
   have e2 : (rows Ss.cells T).take (i * 5) = cur.toList.take (i * 5) := by
    rw [← h4, List.take_take, Nat.min_eq_left (by omega)]
   rw [e1, e2]
   show List.take ((T.length - 1) * 5) (splice _ _ _) = _
   unfold splice
   rw [List.take_append_of_le_length (by simp only [List.length_take, List.length_append, List.length_drop]; omega), List.take_take, Nat.min_self, ← List.append_assoc]
   rw [List.take_append_of_le_length (by simp only [List.length_take, List.length_append]; omega)]
   rw [List.take_of_length_le (by simp only [List.length_take, List.length_append]; omega)]
theorem del_any (g cap n i j : Nat) (T : List Ss) (w : World) (h : w.ownsRow 0 75 5 (.slice (some ⟨g, 0, none⟩) n cap) n (rows Ss.cells T)) (hn : n = T.length) (hj : j = i + 1) (hjn : j ≤ n) (hcap : n ≤ cap) :
  Calls Tryz.prog 119 #[.slice (some ⟨g, 0, none⟩) n cap, .int .i64 (i : Int), .int .i64 (j : Int)] w fun e w' => e = .returned (.slice (some ⟨g, 0, none⟩) (n - 1) cap) ∧ w'.ownsRow 0 75 5 (.slice (some ⟨g, 0, none⟩) (n - 1) cap) (n - 1) (rows Ss.cells (T.eraseIdx i)) ∧ Fr w w' [g] := by
 obtain ⟨i0, hi, hz0, hz1, hz2⟩ := info_parts ssInfo
 subst hn
 obtain ⟨k1, k2, k3, k4⟩ := del_own (w := w.drew) h (i := i) (by omega) ss0.cells rfl
 have hdl : (rows Ss.cells (T.drop (i + 1))).length = (T.length - j) * 5 := by rw [rows_len (C := Ss.cells) Ss.len, List.length_drop, hj]
 have hone := rows_one (C := Ss.cells) (l := T.drop (i + 1)) Ss.ones
 obtain ⟨A, hA, hsrc⟩ : ∃ A : Addr, (if cap = j then some (⟨g, 0, none⟩ : Addr) else some ⟨g, j * 5, none⟩) = some A ∧ Hid (∀ t u, (rows Ss.cells (T.drop (i + 1)))[t]? = some u → w.drew.cell? (A.add t) = some u) := by
  by_cases hc : cap = j
  ·
   refine ⟨⟨g, 0, none⟩, by simp [hc], fun t u hu => ?_⟩
   have h0 : (rows Ss.cells (T.drop (i + 1))).length = 0 := by rw [hdl, show T.length - j = 0 by omega]
   rw [List.length_eq_zero_iff.1 h0] at hu
   simp at hu
  ·
   refine ⟨⟨g, j * 5, none⟩, by simp [hc], fun t u hu => ?_⟩
   rw [rows_drop Ss.len, List.getElem?_drop, ← hj] at hu
   have := World.ownsRow.cells (w := w) h rfl (j * 5 + t) u hu
   rw [add_lit, Nat.zero_add] at this
   rw [add_lit]
   exact this
 generalize hX : rows Ss.cells (T.drop (i + 1)) = X at *
 obtain ⟨W1, hW1⟩ : ∃ W1, W1 = w.drew.setCells g (i * 5) X := ⟨_, rfl⟩
 rw [← hW1] at k1 k2 k3
 have hcl : ∀ ty, (Builtin.clear_ #[48] ty #[.slice (some ⟨g, (T.length - 1) * 5, none⟩) 1 (cap - (T.length - 1))]).run Tryz.prog W1 = .ok (.tuple #[]) (W1.setCells g ((T.length - 1) * 5) ss0.cells) :=
  fun ty => run_clear_one W1 _ _ ty ss0.cells Tryz.underlying48 zeroSs (Ss.ones _) g _ _ (by rw [Ss.len]; exact k3)
 have HW := hid hW1
 have HK1 := hid k1
 have HK2 := hid k2
 have s1 := hid hdl
 have s2 := hid hone
 have s3 := hid k4
 have e1 : i + (T.length - j) = T.length - 1 := by omega
 have e2 : T.length - (T.length - 1) = 1 := by omega
 generalize hN : T.length = n at *
 generalize T.eraseIdx i = U at *
 have h1 : i ≤ cap := by omega
 have h2 : j ≤ cap := by omega
 have h3 : n - 1 ≤ n := by omega
 have h4 : (i : Int) ≤ (j : Int) := by omega
 have h5 : ((i : Int) == (j : Int)) = false := beq_eq_false_iff_ne.2 (by omega)
 have HJ := hid hj
 clear hN hX hW1 k1 k2 k3 k4 hdl hone h hj
 go_enter Tryz.func119, Tryz.ntmps119
 go_wp2_with fail
 go_region_law (refine step_append_room rfl (.tmp 22) (.tmp 25) 48 rfl 75 i0 5 Tryz.underlying48 hi hz1 g 0 i cap (by simp [Act.eval, Act.put]) A (n - j) (cap - j) X (by simp [Act.eval, Act.put]) s1.out hsrc.out s2.out (by omega) (fun t ht => by rw [Nat.zero_add]; exact s3.out t ht) ?_; rw [Nat.zero_add, ← HW.out])
 go_wp2_with fail
 go_ret
 exact ⟨rfl, HK1.out, (Fr.refl w [g]).drew.grown HK2.out (by intro b hb; cases hb; exact .inl (by simp))⟩
theorem room_few (p : Nat) (v : Value) (T : List Ss) (w : World) (h : HasT w 94 p v T) (hlt : T.length < 3) : Calls Tryz.prog 84 #[.pointer (some ⟨p, 0, none⟩)] w (VE w (.int .i64 0)) := by
 obtain ⟨A, cc, e, hnc, -⟩ := h.shape
 have hc0 := h.c0
 rw [e] at hc0
 have hi : (T.length : Int) < 3 := by omega
 generalize T.length = n at *
 clear h e
 go_enter Tryz.func84, Tryz.ntmps84
 go_wp2_with fail
 go_ret
 exact ⟨rfl, Below.refl _ _⟩
theorem lst_lt {T : List Ss} (h : T.length = 3) (k : Nat) (hk : k ≤ 3) : lstK T k < T.length := by
 rcases Nat.eq_zero_or_pos k with h0 | h0
 ·
  subst h0; simp [lstK, h]
 ·
  have := lstK_lt T k h0; omega
theorem room_full (p : Nat) (v : Value) (T : List Ss) (w : World) (h : HasT w 94 p v T) (h3 : T.length = 3) : Calls Tryz.prog 84 #[.pointer (some ⟨p, 0, none⟩)] w fun e w' => e = .returned (.int .i64 (at_8 T (lst T)).c) ∧ Gw8 94 p w (fpT p v) (T.eraseIdx (lst T)) w' := by
 obtain ⟨g, cap, ev, hcap, hg⟩ := own_some h.own (by omega : 0 < T.length)
 rw [h3] at ev hcap
 have HH := hid (fun W (hW : Below w.heap.size w W) => h.below hW)
 have hl := lst_lt h3 3 (Nat.le_refl _)
 have hL : lst T = lstK T 3 := by unfold lst; rw [h3]
 rw [hL, at_get hl]
 obtain ⟨l, hll⟩ : ∃ l, lstK T 3 = l := ⟨_, rfl⟩
 have HLL := hid hll
 rw [hll] at hl
 have HL3 : Hid (l < 3) := hid (by omega)
 have HD1 := fun W (hW : Below w.heap.size w W) => del_any g cap 3 l (l + 1) T W (by have := (h.below hW).own; rw [ev, h3] at this; exact this) h3.symm rfl (by omega) hcap
 have HEL : Hid ((T.eraseIdx l).length = 2) := hid (by rw [List.length_eraseIdx, if_pos hl, h3])
 have HWF : Hid (WF (T.eraseIdx l)) := hid ⟨by rw [HEL.out]; omega, fun x hx => h.wf.ok x (List.mem_of_mem_eraseIdx hx)⟩
 have HCC2 := hid (fun W (hW : Below w.heap.size w W) => show W.cell? ⟨g, l * 5, none⟩ = some (.int .i64 T[l].c) from (h.below hW).cell hg l 0 hl (by decide))
 have e1 : T[lstK T 3]'(lst_lt h3 3 (Nat.le_refl _)) = T[l] := by congr 1
 rw [e1, hll]
 generalize T[l].c = who at *
 generalize T.eraseIdx l = U at *
 have HD : Hid (∀ W, Below w.heap.size w W → Calls Tryz.prog 119 #[.slice (some ⟨g, 0, none⟩) 3 cap, .int .i64 (l : Int), .int .i64 ((l : Int) + 1)] W fun e w' => e = .returned (.slice (some ⟨g, 0, none⟩) 2 cap) ∧ w'.ownsRow 0 75 5 (.slice (some ⟨g, 0, none⟩) 2 cap) 2 (rows Ss.cells U) ∧ Fr W w' [g]) := hid HD1
 clear HD1 hL hll e1 hl
 have HC0 := hid (fun W (hW : Below w.heap.size w W) => show W.cell? ⟨p, 0, none⟩ = some (.slice (some ⟨g, 0, none⟩) 3 cap) from by rw [← ev]; exact (h.below hW).c0)
 have HF0 := hid (fun W (hW : Below w.heap.size w W) => (h.below hW).f 0)
 have HCO := hid (fun k (hk : k < T.length) W (hW : Below w.heap.size w W) => show W.cell? ⟨g, k * 5 + 3, none⟩ = some (.int .i64 T[k].o) from (h.below hW).cell hg k 3 hk (by decide))
 have HRG := hid (fun k (hk : k < T.length) W (hW : Below w.heap.size w W) => (h.below hW).range hg k hk)
 have HZ := hid ssSize
 have HLT := hid (fun k (hk : k ≤ 3) => lst_lt h3 k hk)
 have H3 := hid h3
 have HEV := hid ev
 have HG := hid hg
 have HCAP := hid hcap
 have hc0 := HC0.out w (Below.refl _ _)
 clear h h3 ev hg
 go_enter Tryz.func84, Tryz.ntmps84
 go_wp2_with fail
 clear hc0
 go_loopw [3, 18] (fun lv iv wr => ∃ k : Nat, k ≤ 3 ∧ iv = .int .i64 (k : Int) ∧ lv = .int .i64 (lstK T k : Int) ∧ Below w.heap.size w wr) (fun _ iv _ => 3 - (intOf iv).toNat)
 case atStart => exact ⟨0, by omega, rfl, rfl, Below.refl _ _⟩
 case round =>
  obtain ⟨k, hk, rfl, rfl, hbe⟩ := hrel
  have HBE := hid hbe
  have hl := HLT.out k hk
  by_cases hlt : k < 3
  ·
   have hkl : k < T.length := by rw [H3.out]; exact hlt
   have HX3 : Hid ((Ss.cells T[k])[3]? = some (.int .i64 T[k].o)) := hid rfl
   have HC5 : Hid ((Ss.cells T[k]).length = 5) := hid (Ss.len _)
   have HC1 : Hid ((Ss.cells T[k]).all (·.oneCell') = true) := hid (Ss.one _)
   have HRK := hid (HRG.out k hkl wr hbe)
   have HLO := hid (fun W (hW : Below w.heap.size w W) => HCO.out (lstK T k) hl W hW)
   have HST : Hid (lstK T (k + 1) = if T[k].o < T[lstK T k].o then k else lstK T k) := hid (by rw [lstK, at_get hkl, at_get hl])
   generalize T[k].o = ok at *
   generalize T[lstK T k].o = ol at *
   generalize Ss.cells T[k] = X at *
   obtain ⟨l, hll⟩ : ∃ l, lstK T k = l := ⟨_, rfl⟩
   rw [hll] at hl HLO HST ⊢
   have hl3 : (l : Int) < 3 := by have := H3.out; omega
   have hl0 : (0 : Int) ≤ (l : Int) := by omega
   have hk0 : (0 : Int) ≤ (k : Int) := by omega
   have hk3 : (k : Int) < 3 := by omega
   clear hll hbe
   go_wp2_with (first
    | (refine wpList_load_mid rfl 75 (.tmp 21) rfl g (k * 5) rfl X _ HRK.out Tryz.underlying75 rfl (by rw [HC5.out]; exact HZ.out) ?_)
    | (refine wpl_store_st rfl (.tmp 5) (.tmp 22) rfl HZ.out wr.heap.size ss0.cells X rfl rfl (Row.new _ _ _) ?_ (hid rfl) (hid HC5.out) (hid HC1.out); intro w3 hr3 hg3; have hb3 := HBE.out.trans ((((Below.refl _ _).alloc (Nat.le_refl _) _).trans (below_grown hg3 (Nat.le_refl _) (by simp))).mono HBE.out.size); have hcs := hr3.at_ 3 _ HX3.out; have hcl := HLO.out _ hb3; have hcp := HC0.out _ hb3; have HB3 := hid hb3; clear hb3 hg3 hr3))
   by_cases hd : ok < ol
   ·
    have hd' : decide (ok < ol) = true := decide_eq_true hd
    rw [if_pos hd] at HST
    clear hd
    go_quiet (fail)
    go_wp2_with fail
    exact ⟨⟨k + 1, by omega, by go_num, by rw [HST.out], below_drewN HB3.out _⟩, by simp [intOf]; omega⟩
   ·
    have hd' : decide (ok < ol) = false := decide_eq_false hd
    rw [if_neg hd] at HST
    clear hd
    go_quiet (fail)
    go_wp2_with fail
    exact ⟨⟨k + 1, by omega, by go_num, by rw [HST.out], below_drewN HB3.out _⟩, by simp [intOf]; omega⟩
  ·
   obtain rfl : k = 3 := by omega
   have hcp := HC0.out _ hbe
   have hcc := HCC2.out wr hbe
   have HD2 := HD
   rw [HLL.out]
   have hl3 : (l : Int) < 3 := by have := HL3.out; omega
   have hl0 : (0 : Int) ≤ (l : Int) := by omega
   clear hbe hl
   go_wp2_with (go_at_call 119; refine (HD2.out _ HBE.out).mono ?_; rintro e w4 ⟨rfl, ho4, hf4⟩; have HO4 := hid ho4; have HF4 := hid hf4; have hr4 := (hf4.row ((HH.out _ HBE.out).box) (by have := (HH.out _ HBE.out).n1; rw [HG.out] at this; simpa using (fun e : p = g => this (by rw [e])))); have hcp4 := hr4.at_ 0 _ rfl; have hfp4 := hr4.frozen 0; clear ho4 hf4 hr4)
   go_ret
   have h4 := HH.out _ HBE.out
   have hM := h4.put (v' := .slice (some ⟨g, 0, none⟩) 2 cap) (T' := U) (by rw [HG.out]; exact HF4.out) (by rw [HEL.out]; exact HO4.out) (fun b hb => by left; rw [HG.out]; exact hb) HWF.out
   refine ⟨rfl, fpT p (.slice (some ⟨g, 0, none⟩) 2 cap), ⟨_, rfl, hM.1⟩, ?_, ?_⟩
   ·
    exact ((Fr.of_below HBE.out).mono (fq := fpT p v) (by simp)).trans hM.2.1 (by intro b hb _; exact hb)
   ·
    intro b hb
    rcases hM.2.2 b hb with h | h
    ·
     exact .inl h
    ·
     have := HBE.out.size
     right; omega
theorem room_any (p : Nat) (fp : List Nat) (T : List Ss) (w : World) (h : Gk8 94 p T fp w) : Calls Tryz.prog 84 #[.pointer (some ⟨p, 0, none⟩)] w fun e w' => e = .returned (.int .i64 (gone T)) ∧ Gw8 94 p w fp (room T) w' := by
 have hG := h
 obtain ⟨v, rfl, h⟩ := h
 unfold gone room
 by_cases h3 : T.length < 3
 ·
  rw [if_pos h3, if_pos h3]
  exact (room_few p v T w h h3).mono fun e w' hh => ⟨hh.1, (Gw8.start hG).below hh.2⟩
 ·
  rw [if_neg h3, if_neg h3]
  exact room_full p v T w h (by have := h.wf.le; omega)
/-- a number and an error's number -/
def NN (w : World) (a b : Int) (e : Ending) (w' : World) : Prop := e = .returned (.tuple #[.int .i64 a, .int .i64 b]) ∧ Below w.heap.size w w'
theorem app_fact {w3 w4 : World} {X p : Nat} {v : Value} {T : List Ss} {ob : Obj} (h3 : HasT w3 X p v T) (hg : (w3.alloc ob).grownBy w4 v.ownBlock) :
  Row w4 p X [v] ∧ Fr w3 w4 v.ownBlock.toList := by
 have hf : Fr w3 w4 v.ownBlock.toList := ((Fr.refl w3 v.ownBlock.toList).alloc ob).grown hg (by intro b hb; exact .inl (by simp [hb]))
 exact ⟨hf.row h3.box (by simpa using h3.n1), hf⟩
section
variable (p : Nat) (c o : Int) (w : World)
theorem opn_1a (h : c = 0) : Calls Tryz.prog 53 #[.pointer (some ⟨p, 0, none⟩), .int .i64 c, .int .i64 o] w (NN w 0 1) := by
 subst h
 go_enter Tryz.func53, Tryz.ntmps53
 go_wp2_with (first
  | (go_at_call 83; refine (HN1.out _).mono ?_; rintro e w3 ⟨rfl, rfl⟩; clear HN1)
  | (go_at_call 83; refine (HN2.out _).mono ?_; rintro e w3 ⟨rfl, rfl⟩))
 go_ret2
 exact ⟨rfl, Below.refl _ _⟩
theorem opn_1b (h : c ≠ 0) (h2 : o = 0) : Calls Tryz.prog 53 #[.pointer (some ⟨p, 0, none⟩), .int .i64 c, .int .i64 o] w (NN w 0 1) := by
 subst h2
 have e1 : (c == 0) = false := beq_eq_false_iff_ne.2 h
 clear h
 go_enter Tryz.func53, Tryz.ntmps53
 go_wp2_with (first
  | (go_at_call 83; refine (HN1.out _).mono ?_; rintro e w3 ⟨rfl, rfl⟩; clear HN1)
  | (go_at_call 83; refine (HN2.out _).mono ?_; rintro e w3 ⟨rfl, rfl⟩))
 go_ret2
 exact ⟨rfl, Below.refl _ _⟩
theorem opn_1c (h : c ≠ 0) (h2 : o ≠ 0) (h3 : ¬ Fit c) : Calls Tryz.prog 53 #[.pointer (some ⟨p, 0, none⟩), .int .i64 c, .int .i64 o] w (NN w 0 1) := by
 have e1 : (c == 0) = false := beq_eq_false_iff_ne.2 h
 have e2 : (o == 0) = false := beq_eq_false_iff_ne.2 h2
 have HN1 := hid (fun W => num_no c W h3)
 clear h h2 h3
 go_enter Tryz.func53, Tryz.ntmps53
 go_wp2_with (first
  | (go_at_call 83; refine (HN1.out _).mono ?_; rintro e w3 ⟨rfl, rfl⟩; clear HN1)
  | (go_at_call 83; refine (HN2.out _).mono ?_; rintro e w3 ⟨rfl, rfl⟩))
 go_ret2
 exact ⟨rfl, Below.refl _ _⟩
theorem opn_1d (h : c ≠ 0) (h2 : o ≠ 0) (h3 : Fit c) (h4 : ¬ Fit o) : Calls Tryz.prog 53 #[.pointer (some ⟨p, 0, none⟩), .int .i64 c, .int .i64 o] w (NN w 0 1) := by
 have e1 : (c == 0) = false := beq_eq_false_iff_ne.2 h
 have e2 : (o == 0) = false := beq_eq_false_iff_ne.2 h2
 have HN1 := hid (fun W => num_yes c W h3.1 h3.2)
 have HN2 := hid (fun W => num_no o W h4)
 clear h h2 h3 h4
 go_enter Tryz.func53, Tryz.ntmps53
 go_wp2_with (first
  | (go_at_call 83; refine (HN1.out _).mono ?_; rintro e w3 ⟨rfl, rfl⟩; clear HN1)
  | (go_at_call 83; refine (HN2.out _).mono ?_; rintro e w3 ⟨rfl, rfl⟩))
 go_ret2
 exact ⟨rfl, Below.refl _ _⟩
theorem opn_1 (h : ¬ Fit1 c ∨ ¬ Fit1 o) : Calls Tryz.prog 53 #[.pointer (some ⟨p, 0, none⟩), .int .i64 c, .int .i64 o] w (NN w 0 1) := by
 by_cases h1 : c = 0
 ·
  exact opn_1a p c o w h1
 by_cases h2 : o = 0
 ·
  exact opn_1b p c o w h1 h2
 by_cases h3 : Fit c
 ·
  exact opn_1d p c o w h1 h2 h3 (by omega)
 ·
  exact opn_1c p c o w h1 h2 h3
theorem opn_7 (v : Value) (T : List Ss) (h : HasT w 94 p v T) (h1 : Fit1 c) (h2 : Fit1 o) (hk : pl T c < T.length) : Calls Tryz.prog 53 #[.pointer (some ⟨p, 0, none⟩), .int .i64 c, .int .i64 o] w (NN w 0 7) := by
 obtain ⟨g, cc, -, -, hg⟩ := own_some h.own (by omega : 0 < T.length)
 have HO := hid (of_yes p g (pl T c) v T c w h hg rfl hk)
 have e1 : (c == 0) = false := beq_eq_false_iff_ne.2 (by omega)
 have e2 : (o == 0) = false := beq_eq_false_iff_ne.2 (by omega)
 have HN1 := hid (fun W => num_yes c W (by omega) h1.2)
 have HN2 := hid (fun W => num_yes o W (by omega) h2.2)
 generalize pl T c = k at *
 clear h hg hk h1 h2
 go_enter Tryz.func53, Tryz.ntmps53
 go_wp2_with (first
  | (go_at_call 83; refine (HN1.out _).mono ?_; rintro e w3 ⟨rfl, rfl⟩; clear HN1)
  | (go_at_call 83; refine (HN2.out _).mono ?_; rintro e w3 ⟨rfl, rfl⟩)
  | (go_at_call 63; refine HO.out.mono ?_; rintro e w2 ⟨rfl, hb2⟩))
 go_ret2
 exact ⟨rfl, hb2⟩
theorem opn_0 (v : Value) (T : List Ss) (h : HasT w 94 p v T) (h1 : Fit1 c) (h2 : Fit1 o) (hk : ¬ pl T c < T.length) : Calls Tryz.prog 53 #[.pointer (some ⟨p, 0, none⟩), .int .i64 c, .int .i64 o] w fun e w' => e = .returned (.tuple #[.int .i64 (gone T), .int .i64 0]) ∧ Gw8 94 p w (fpT p v) (room T ++ [fresh c o]) w' := by
 obtain ⟨i0, hi, hz0, hz1, hz2⟩ := info_parts ssInfo
 have HO := hid (of_no p v T c w h hk)
 have HRM := hid (fun W (hW : Below w.heap.size w W) => room_any p (fpT p v) T W ⟨v, rfl, h.below hW⟩)
 have e1 : (c == 0) = false := beq_eq_false_iff_ne.2 (by omega)
 have e2 : (o == 0) = false := beq_eq_false_iff_ne.2 (by omega)
 have HN1 := hid (fun W => num_yes c W (by omega) h1.2)
 have HN2 := hid (fun W => num_yes o W (by omega) h2.2)
 have HWF : Hid (WF (room T ++ [fresh c o])) := hid (by
  have := opn_wf h.wf c o
  have e : opnE T c o = 0 := by unfold opnE; rw [if_neg (by omega), if_neg hk]
  unfold opn at this
  rw [if_pos e] at this
  exact this)
 have HR2 := hid (room_le h.wf.le)
 generalize gone T = who at *
 generalize room T = U at *
 have HFC : Hid (Ss.cells (fresh c o) = [.int .i64 c, .int .i64 o, .int .i64 0, .int .i64 o, .string ⟨#[]⟩]) := hid rfl
 have HNW : Hid (∀ W : World, ∀ j u, (Ss.cells (fresh c o))[j]? = some u → (W.alloc (.cells #[.int .i64 c, .int .i64 o, .int .i64 0, .int .i64 o, .string ⟨#[]⟩] 75)).cell? ((⟨W.heap.size, 0, none⟩ : Addr).add j) = some u) := hid fun W j u hu => World.news_of_block (heap_alloc_new W (.cells #[.int .i64 c, .int .i64 o, .int .i64 0, .int .i64 o, .string ⟨#[]⟩] 75)) j u hu
 clear h hk h1 h2
 go_enter Tryz.func53, Tryz.ntmps53
 go_wp2_with (first
  | (go_at_call 83; refine (HN1.out _).mono ?_; rintro e w3 ⟨rfl, rfl⟩; clear HN1)
  | (go_at_call 83; refine (HN2.out _).mono ?_; rintro e w3 ⟨rfl, rfl⟩)
  | (go_at_call 63; refine HO.out.mono ?_; rintro e w2 ⟨rfl, hb2⟩; have HB2 := hid hb2; clear hb2)
  | (go_at_call 84; refine (HRM.out _ HB2.out).mono ?_; rintro e w3 ⟨rfl, fq, hk3, hf3, hat3⟩; obtain ⟨v3, rfl, h3⟩ := hk3; have hc3 := h3.c0; have H3 := hid h3; have HF3 := hid hf3; have HAT3 := hid hat3; clear hf3 hat3 h3)
  | (refine wpl_slice1 rfl 48 75 (.tmp 41) rfl i0 _ 5 Tryz.underlying48 hi hz0 hz1 (by decide) (by decide) [.int .i64 c, .int .i64 o, .int .i64 0, .int .i64 o, .string ⟨#[]⟩] rfl rfl ?_)
  | (refine wpList_append_lies _ rfl (.tmp 37) (.tmp 42) 48 rfl 0 75 i0 _ 5 48 Tryz.underlying48 hi hz0 hz1 hz2 rfl (by decide) v3 U.length _ rfl (H3.out.own.alloc _) ⟨w3.heap.size, 0, none⟩ 1 1 (Ss.cells (fresh c o)) rfl rfl (HNW.out w3) (Ss.ones _) (by decide) (le_maxLen (by have := HR2.out; omega)) (by have := HR2.out; omega) (Nat.zero_le _) (w3.heap.size + 1) (by simp) ?_; intro g cap w4 ho4 hg4 hat4 hlt4; have HA4 := hid (app_fact H3.out hg4); have HO4 := hid ho4; have HAT4 := hid hat4; have hc4 := HA4.out.1.at_ 0 _ rfl; have hf4 := HA4.out.1.frozen 0; clear ho4 hg4 hat4 hlt4))
 go_ret2
 have hM := H3.out.put (v' := .slice (some ⟨g, 0, none⟩) (U.length + 1) cap) (T' := U ++ [fresh c o]) HA4.out.2 (by have h := HO4.out; rw [List.length_append, rows_app, rows1]; exact h) (vend HAT4.out) HWF.out
 have hG : Gw8 94 p w2 (fpT p v) (U ++ [fresh c o]) (w4.setCell ⟨p, 0, none⟩ (.slice (some ⟨g, 0, none⟩) (U.length + 1) cap)) := by
  refine Gw8.step (S := U) (w' := w3) ⟨fpT p v3, ⟨v3, rfl, H3.out⟩, HF3.out, HAT3.out⟩ ?_
  rintro fq ⟨v4, rfl, h4⟩
  have e : v4 = v3 := by have := h4.c0; rw [H3.out.c0] at this; exact (Option.some.inj this).symm
  subst e
  exact ⟨_, ⟨_, rfl, hM.1⟩, hM.2.1, hM.2.2⟩
 refine ⟨rfl, ?_⟩
 obtain ⟨fq, a1, a2, a3⟩ := hG
 refine ⟨fq, a1, ((Fr.of_below HB2.out).mono (fq := fpT p v) (by simp)).trans a2 (by intro b hb _; exact hb), fun b hb => ?_⟩
 rcases a3 b hb with h | h
 ·
  exact .inl h
 ·
  have := HB2.out.size
  right; omega
end
theorem opn_any (p : Nat) (fp : List Nat) (T : List Ss) (c o : Int) (w : World) (h : Gk8 94 p T fp w) : Calls Tryz.prog 53 #[.pointer (some ⟨p, 0, none⟩), .int .i64 c, .int .i64 o] w fun e w' => e = .returned (.tuple #[.int .i64 (opnL T c o), .int .i64 (opnE T c o)]) ∧ Gw8 94 p w fp (opn T c o) w' := by
 have hG := h
 obtain ⟨v, rfl, h⟩ := h
 unfold opnL opn
 by_cases h1 : ¬ Fit1 c ∨ ¬ Fit1 o
 ·
  have e : opnE T c o = 1 := by unfold opnE; rw [if_pos h1]
  rw [e, if_neg (by decide), if_neg (by decide)]
  exact (opn_1 p c o w h1).mono fun e w' hh => ⟨hh.1, (Gw8.start hG).below hh.2⟩
 ·
  by_cases h2 : pl T c < T.length
  ·
   have e : opnE T c o = 7 := by unfold opnE; rw [if_neg h1, if_pos h2]
   rw [e, if_neg (by decide), if_neg (by decide)]
   exact (opn_7 p c o w v T h (by omega) (by omega) h2).mono fun e w' hh => ⟨hh.1, (Gw8.start hG).below hh.2⟩
  ·
   have e : opnE T c o = 0 := by unfold opnE; rw [if_neg h1, if_neg h2]
   rw [e, if_pos rfl, if_pos rfl]
   exact opn_0 p c o w v T h (by omega) (by omega) h2
/-- arr[i] of an array by value, its elements of one cell, as a step of the walk -/
theorem wpl_index_arr {P : Program} {w : World} {ops : Array Oper} {rest : List Oper} {o : Oper} {a : Act} {Q : Exit → Act → World → Prop} (hgd : o.guard = none) (t : TypeId) (x y : Operand) (ho : o.op = .index t x y)
  (e n : Nat) (cs : Array Value) (k : IntKind) (i : Nat) (v : Value) (hx : a.eval x = .agg cs) (hy : a.eval y = .int k (i : Int)) (h : P.underlying t = some (.array n e)) (hg : ∀ w, (isAgg e).run P w = .ok false w)
  (hs : (P.info? e).map (·.size) = some 1) (hi : i < n) (hv : cs[i]? = some v) (hK : wpList P ops Q rest (a.put o.dst v) w) : wpList P ops Q (o :: rest) a w := by
 refine wpList_plain hgd fun K hK' => ?_
 obtain ⟨j, hj, hjs⟩ := Option.map_eq_some_iff.1 hs
 have h1 : (0 : Int) ≤ i ∧ (i : Int) < (n : Int) := by omega
 have hrun : (Instr.index t (.agg cs) (.int k (i : Int))).run P w = .ok v w := by
  simp [Instr.index, run_underlying h, asIntOf, sizeOf, typeInfo, hj, hjs, Go.part, hg, hi, hv]
 unfold Oper.wp execOp
 simp only [ho, hx, hy, Sem.run_bind, Sem.run_pure, Result.andThen_ok, hrun]
 exact hK' _ _ hK
/-- bytes, so many -/
def BS (w : World) (bs : List UInt8) (n : Nat) (e : Ending) (w' : World) : Prop := ∃ A c, e = .returned (.slice A n c) ∧ Rd w' w'.heap.size A (bvs bs) ∧ Below w.heap.size w w'
/-- bytes, so many, and no error -/
def BN (w : World) (bs : List UInt8) (n : Nat) (e : Ending) (w' : World) : Prop := ∃ A c, e = .returned (.tuple #[.slice A n c, .int .i64 0]) ∧ Rd w' w'.heap.size A (bvs bs) ∧ Below w.heap.size w w'
theorem BN.of {w w' : World} {e : Ending} {bs : List UInt8} {n : Nat} (h : BE w (bs, 0) e w') (hn : bs.length = n) : BN w bs n e w' := by
 obtain ⟨A', c', e1, ho, hb⟩ := BE.len h hn
 obtain ⟨A2, c2, e2, _, _, hrd⟩ := own_shape ho
 cases e2
 exact ⟨A', c', e1, hrd, hb⟩
theorem put_eight8 (A : Option Addr) (bs : List UInt8) (m c n B : Nat) (W : World) (hr : Rd W B A (bvs bs)) (hm : m = bs.length) (hn : U64 n) (hB : B ≤ W.heap.size) (hl : m ≤ 140737488351232) :
  Calls Tryz.prog 69 #[.slice A m c, .int .u64 (n : Int), .int .i64 8] W (BN W (bs ++ le n 8) (m + 8)) := by
 subst hm
 have h := put_any A bs bs.length c n B 8 W hr rfl hB hl
 have e : putS bs n 8 = (bs ++ le n 8, 0) := by
  unfold putS
  rw [if_pos ⟨by omega, by omega, Nat.div_eq_of_lt (by simpa using hn)⟩]
  rfl
 rw [e] at h
 exact h.mono fun e w' hh => BN.of hh (by simp [le_len])
theorem put_count (n : Nat) (hn : n ≤ 3) (W : World) : Calls Tryz.prog 69 #[.slice none 0 0, .int .u64 (n : Int), .int .i64 1] W (BN W [UInt8.ofNat n] 1) := by
 have h2 := put_any none [] 0 0 n 0 1 W Rd.nil rfl (Nat.zero_le _) (by omega)
 have e : putS [] n 1 = ([UInt8.ofNat n], 0) := by
  unfold putS
  rw [if_pos ⟨by omega, by omega, Nat.div_eq_of_lt (by show n < 2 ^ 8; omega)⟩]
  rfl
 rw [e] at h2
 exact h2.mono fun e w' hh => BN.of hh rfl
theorem pt_text (A : Option Addr) (bs : List UInt8) (m c B : Nat) (t : ByteArray) (W : World) (hr : Rd W B A (bvs bs)) (hm : m = bs.length) (ht : t.size ≤ 200) (hB : B ≤ W.heap.size) (hl : m ≤ 140737488200000) :
  Calls Tryz.prog 108 #[.slice A m c, .string t] W (BN W (bs ++ le t.size 2 ++ sb t) (m + 2 + t.size)) := by
 subst hm
 have h := pt_any A bs bs.length c B t W hr rfl hB hl
 have e : ptS bs (sb t) = (bs ++ le t.size 2 ++ sb t, 0) := by
  unfold ptS
  rw [sb_len, if_neg (by omega)]
 rw [e] at h
 exact h.mono fun e w' hh => BN.of hh (by simp [le_len, sb_len]; omega)
theorem u64_fit (n : Nat) (h : n ≤ 72057594037927935) : IntKind.u64.wrap (n : Int) = (n : Int) := by
 rw [IntKind.wrap_u64]
 omega
/-- the first k numbers behind bs -/
def layK (bs : List UInt8) (a b c d : Nat) : Nat → List UInt8
 | 0 => bs
 | 1 => bs ++ le a 8
 | 2 => bs ++ le a 8 ++ le b 8
 | 3 => bs ++ le a 8 ++ le b 8 ++ le c 8
 | _ => bs ++ le a 8 ++ le b 8 ++ le c 8 ++ le d 8
theorem layK_len (bs : List UInt8) (a b c d : Nat) : ∀ k, k ≤ 4 → (layK bs a b c d k).length = bs.length + k * 8
 | 0, _ => by simp [layK]
 | 1, _ => by simp [layK, le_len]
 | 2, _ => by simp [layK, le_len]
 | 3, _ => by simp [layK, le_len]
 | 4, _ => by simp [layK, le_len]
 | k + 5, h => by omega
theorem lays_nat (A : Option Addr) (bs : List UInt8) (l cap B : Nat) (a b c d : Nat) (t : ByteArray) (w : World) (ha : a ≤ 72057594037927935) (hb : b ≤ 72057594037927935) (hc : c ≤ 72057594037927935) (hd : d ≤ 72057594037927935) (ht : t.size ≤ 200) (hr : Rd w B A (bvs bs)) (hl : l = bs.length) (hB : B ≤ w.heap.size) (hl2 : l ≤ 10000) :
  Calls Tryz.prog 70 #[.slice A l cap, .agg #[.int .i64 (a : Int), .int .i64 (b : Int), .int .i64 (c : Int), .int .i64 (d : Int), .string t]] w (BS w (layK bs a b c d 4 ++ le t.size 2 ++ sb t) (l + 34 + t.size)) := by
 have ea := u64_fit a ha
 have eb := u64_fit b hb
 have ec := u64_fit c hc
 have ed := u64_fit d hd
 have HL := hid (fun k (hk : k ≤ 4) => layK_len bs a b c d k hk)
 rw [← hl] at HL
 have HST0 : Hid (layK bs a b c d 0 = bs) := hid rfl
 have HST1 : Hid (layK bs a b c d 0 ++ le a 8 = layK bs a b c d 1) := hid rfl
 have HST2 : Hid (layK bs a b c d 1 ++ le b 8 = layK bs a b c d 2) := hid rfl
 have HST3 : Hid (layK bs a b c d 2 ++ le c 8 = layK bs a b c d 3) := hid rfl
 have HST4 : Hid (layK bs a b c d 3 ++ le d 8 = layK bs a b c d 4) := hid rfl
 have HW := hid (Row.new w 75 #[.int .i64 (a : Int), .int .i64 (b : Int), .int .i64 (c : Int), .int .i64 (d : Int), .string t])
 have HB0 := hid ((Below.refl w.heap.size w).alloc (Nat.le_refl _) (.cells #[.int .i64 (a : Int), .int .i64 (b : Int), .int .i64 (c : Int), .int .i64 (d : Int), .string t] 75))
 have HR := hid (((hr.below HB0.out hB).more (B' := w.heap.size + 1) (by omega)))
 obtain ⟨w1, hw1⟩ : ∃ w1, w1 = w.alloc (.cells #[.int .i64 (a : Int), .int .i64 (b : Int), .int .i64 (c : Int), .int .i64 (d : Int), .string t] 75) := ⟨_, rfl⟩
 have HS1 : Hid (w1.heap.size = w.heap.size + 1) := hid (by rw [hw1]; simp)
 have HH1 := hid hw1
 rw [← hw1] at HW HB0 HR
 generalize layK bs a b c d = L at *
 have HPE := hid (fun A' xs m cc n B W (hr : Rd W B A' (bvs xs)) hm hn hB hl => put_eight8 A' xs m cc n B W hr hm hn hB hl)
 have HPT := hid (fun A' xs m cc B W (hr : Rd W B A' (bvs xs)) hm hB hl => pt_text A' xs m cc B t W hr hm ht hB hl)
 have HC4 := hid (fun W (hW : Below (w.heap.size + 1) w1 W) => show W.cell? ⟨w.heap.size, 4, none⟩ = some (.string t) from (HW.out.below hW (by omega)).at_ 4 _ rfl)
 have HSI := hid sizeInt
 have H0 := hid ha
 have H1 := hid hb
 have H2 := hid hc
 have H3 := hid hd
 clear hr hl hB hw1 ha hb hc hd ht
 go_enter Tryz.func70, Tryz.ntmps70
 go_wp2_with fail
 rw [← HH1.out]
 go_loopw [0, 16] (fun bv iv wr => ∃ k m A' c', k ≤ 4 ∧ m = l + k * 8 ∧ iv = .int .i64 ((k : Nat) : Int) ∧ bv = .slice A' m c' ∧ Hid (Rd wr wr.heap.size A' (bvs (L k))) ∧ Below (w.heap.size + 1) w1 wr) (fun _ iv _ => 4 - (intOf iv).toNat)
 case atStart => exact ⟨0, l, A, cap, by omega, by omega, rfl, rfl, hid (by rw [HST0.out]; exact HR.out.more (by rw [HS1.out]; omega)), Below.refl _ _⟩
 case round =>
  obtain ⟨k, m, A', c', hk, hm, rfl, rfl, HRD, hbe⟩ := hrel
  have HBE := hid hbe
  have HM := hid hm
  have hsz := hbe.size
  have HSZ := hid hsz
  clear hbe hm
  have h5 : k = 0 ∨ k = 1 ∨ k = 2 ∨ k = 3 ∨ k = 4 := by omega
  rcases h5 with rfl | rfl | rfl | rfl | rfl
  ·
   go_wp2_with (first | (refine wpl_index_arr rfl 143 (.tmp 15) (.tmp 16) rfl 3 4 _ .i64 0 (.int .i64 (a : Int)) rfl rfl Tryz.underlying143 (fun w => Tryz.isAgg3 w) HSI.out (by decide) rfl ?_) | go_at_call 69; refine (HPE.out _ _ _ _ _ _ _ HRD.out (by rw [HL.out _ hk]; exact HM.out) (by have := H0.out; unfold U64; omega) (Nat.le_refl _) (by have := HM.out; omega)).mono ?_; rintro e w3 ⟨A3, c3, rfl, hrd3, hb3⟩)
   exact ⟨⟨1, m + 8, A3, c3, by omega, by have := HM.out; omega, rfl, rfl, hid (by rw [← HST1.out]; exact hrd3), HBE.out.trans (hb3.mono (by rw [← HS1.out]; exact HSZ.out))⟩, by simp [intOf]⟩
  ·
   go_wp2_with (first | (refine wpl_index_arr rfl 143 (.tmp 15) (.tmp 16) rfl 3 4 _ .i64 1 (.int .i64 (b : Int)) rfl rfl Tryz.underlying143 (fun w => Tryz.isAgg3 w) HSI.out (by decide) rfl ?_) | go_at_call 69; refine (HPE.out _ _ _ _ _ _ _ HRD.out (by rw [HL.out _ hk]; exact HM.out) (by have := H1.out; unfold U64; omega) (Nat.le_refl _) (by have := HM.out; omega)).mono ?_; rintro e w3 ⟨A3, c3, rfl, hrd3, hb3⟩)
   exact ⟨⟨2, m + 8, A3, c3, by omega, by have := HM.out; omega, rfl, rfl, hid (by rw [← HST2.out]; exact hrd3), HBE.out.trans (hb3.mono (by rw [← HS1.out]; exact HSZ.out))⟩, by simp [intOf]⟩
  ·
   go_wp2_with (first | (refine wpl_index_arr rfl 143 (.tmp 15) (.tmp 16) rfl 3 4 _ .i64 2 (.int .i64 (c : Int)) rfl rfl Tryz.underlying143 (fun w => Tryz.isAgg3 w) HSI.out (by decide) rfl ?_) | go_at_call 69; refine (HPE.out _ _ _ _ _ _ _ HRD.out (by rw [HL.out _ hk]; exact HM.out) (by have := H2.out; unfold U64; omega) (Nat.le_refl _) (by have := HM.out; omega)).mono ?_; rintro e w3 ⟨A3, c3, rfl, hrd3, hb3⟩)
   exact ⟨⟨3, m + 8, A3, c3, by omega, by have := HM.out; omega, rfl, rfl, hid (by rw [← HST3.out]; exact hrd3), HBE.out.trans (hb3.mono (by rw [← HS1.out]; exact HSZ.out))⟩, by simp [intOf]⟩
  ·
   go_wp2_with (first | (refine wpl_index_arr rfl 143 (.tmp 15) (.tmp 16) rfl 3 4 _ .i64 3 (.int .i64 (d : Int)) rfl rfl Tryz.underlying143 (fun w => Tryz.isAgg3 w) HSI.out (by decide) rfl ?_) | go_at_call 69; refine (HPE.out _ _ _ _ _ _ _ HRD.out (by rw [HL.out _ hk]; exact HM.out) (by have := H3.out; unfold U64; omega) (Nat.le_refl _) (by have := HM.out; omega)).mono ?_; rintro e w3 ⟨A3, c3, rfl, hrd3, hb3⟩)
   exact ⟨⟨4, m + 8, A3, c3, by omega, by have := HM.out; omega, rfl, rfl, hid (by rw [← HST4.out]; exact hrd3), HBE.out.trans (hb3.mono (by rw [← HS1.out]; exact HSZ.out))⟩, by simp [intOf]⟩
  ·
   have hc4 := HC4.out wr HBE.out
   go_wp2_with (go_at_call 108; refine (HPT.out _ _ _ _ _ _ HRD.out (by rw [HL.out _ hk]; exact HM.out) (Nat.le_refl _) (by have := HM.out; omega)).mono ?_; rintro e w3 ⟨A3, c3, rfl, hrd3, hb3⟩)
   go_ret
   refine ⟨A3, c3, by have := HM.out; rw [show l + 34 + t.size = m + 2 + t.size by omega]; rfl, hrd3, ?_⟩
   have h1 := HBE.out.mono (show w.heap.size ≤ w.heap.size + 1 by omega)
   exact (HB0.out.trans h1).trans (hb3.mono (by have := HSZ.out; have := HS1.out; omega))
theorem lays_any (A : Option Addr) (bs : List UInt8) (l cap B : Nat) (x : Ss) (hx : x.ok) (w : World) (hr : Rd w B A (bvs bs)) (hl : l = bs.length) (hB : B ≤ w.heap.size) (hl2 : l ≤ 10000) :
  Calls Tryz.prog 70 #[.slice A l cap, .agg x.cells.toArray] w (BS w (bs ++ ssB x) (l + (34 + x.t.size))) := by
 obtain ⟨c, s, r, o, t⟩ := x
 obtain ⟨h1, h2, h3, h4, h5⟩ := hx
 obtain ⟨c', rfl⟩ : ∃ n : Nat, c = (n : Int) := ⟨c.toNat, by have := h1.1; simp only at this; omega⟩
 obtain ⟨s', rfl⟩ : ∃ n : Nat, s = (n : Int) := ⟨s.toNat, by have := h2.1; simp only at this; omega⟩
 obtain ⟨r', rfl⟩ : ∃ n : Nat, r = (n : Int) := ⟨r.toNat, by have := h3.1; simp only at this; omega⟩
 obtain ⟨o', rfl⟩ : ∃ n : Nat, o = (n : Int) := ⟨o.toNat, by have := h4.1; simp only at this; omega⟩
 have e : bs ++ ssB ⟨(c' : Int), (s' : Int), (r' : Int), (o' : Int), t⟩ = layK bs c' s' r' o' 4 ++ le t.size 2 ++ sb t := by
  simp only [ssB, layK, Int.toNat_natCast, List.append_assoc]
 rw [e, ← Nat.add_assoc]
 exact lays_nat A bs l cap B c' s' r' o' t w (by have := h1.2; simp only at this; omega) (by have := h2.2; simp only at this; omega) (by have := h3.2; simp only at this; omega) (by have := h4.2; simp only at this; omega) h5 hr hl hB hl2
/-- the first k sessions, packed -/
def packK (T : List Ss) (k : Nat) : List UInt8 := UInt8.ofNat T.length :: (T.take k).flatMap ssB
theorem packK_step (T : List Ss) (k : Nat) (h : k < T.length) : packK T (k + 1) = packK T k ++ ssB T[k] := by
 unfold packK
 rw [List.take_succ_eq_append_getElem h, List.flatMap_append]
 simp
theorem packK_all (T : List Ss) : packK T T.length = pack T := by unfold packK pack; rw [List.take_length]
theorem packK_le {T : List Ss} (h : WF T) (k : Nat) : (packK T k).length ≤ 1 + k * 234 := by
 induction k with
 | zero => simp [packK]
 | succ k ih =>
  by_cases hk : k < T.length
  ·
   rw [packK_step T k hk, List.length_append, ssB_len]
   have := (h.ok _ (List.getElem_mem hk)).t
   omega
  ·
   have e : packK T (k + 1) = packK T k := by unfold packK; rw [List.take_of_length_le (by omega), List.take_of_length_le (by omega)]
   rw [e]; omega
theorem pack_has (p : Nat) (v : Value) (T : List Ss) (w : World) (h : HasT w 94 p v T) : Calls Tryz.prog 43 #[.pointer (some ⟨p, 0, none⟩)] w (SE w (pack T)) := by
 have hw := h.wf.le
 have HLS := hid (list_has p v T w h)
 have HLE := hid (fun k => packK_le h.wf k)
 have HST := hid (packK_step T)
 have HOK := hid (fun k (hk : k < T.length) => h.wf.ok T[k] (List.getElem_mem hk))
 have HK0 : Hid (packK T 0 = [UInt8.ofNat T.length]) := hid rfl
 have HALL := hid (packK_all T)
 have HZ := hid ssSize
 have HP := hid (fun W => put_count T.length hw W)
 generalize pack T = bsT at *
 obtain ⟨n, hn⟩ : ∃ n, T.length = n := ⟨_, rfl⟩
 rw [hn] at HK0 HALL HP hw
 have HN := hid hn
 have hwn := u64_fit n (by omega)
 clear h
 go_enter Tryz.func43, Tryz.ntmps43
 go_wp2_with (first
  | (go_at_call 38; refine HLS.out.mono ?_; intro e w2 hh; obtain ⟨A2, c2, rfl, hc2, hrd2, hb2, -⟩ := hh.ls; have HRD2 := hid hrd2; have HB2 := hid hb2; clear hrd2 hb2 hh; rw [hn] at hc2 ⊢)
  | (go_at_call 69; refine (HP.out _).mono ?_; rintro e w3 ⟨A3, c3, rfl, hrd3, hb3⟩; have HRD3 := hid hrd3; have HB3 := hid hb3; clear hrd3 hb3))
 clear hn
 go_loopw [4, 19] (fun bv iv wr => ∃ k m A' c', k ≤ n ∧ m ≤ 1 + k * 234 ∧ Hid (m = (packK T k).length) ∧ iv = .int .i64 ((k : Nat) : Int) ∧ bv = .slice A' m c' ∧ Hid (Rd wr wr.heap.size A' (bvs (packK T k))) ∧ Below w2.heap.size w2 wr) (fun _ iv _ => n - (intOf iv).toNat)
 case atStart => exact ⟨0, 1, A3, c3, by omega, by omega, hid (by rw [HK0.out]; rfl), rfl, rfl, hid (by rw [HK0.out]; exact HRD3.out), HB3.out⟩
 case round =>
  obtain ⟨k, m, A', c', hk, hm, HM, rfl, rfl, HRD, hbe⟩ := hrel
  have HBE := hid hbe
  by_cases hlt : k < n
  ·
   have hkl : k < T.length := by rw [HN.out]; exact hlt
   have hrd := HRD2.out.below hbe (Nat.le_refl _)
   obtain ⟨ga, o, rfl⟩ := shape_of hrd Ss.len (by decide) (by omega)
   have hrg := hrd.range Ss.len k hkl
   have HLY := hid (fun A'' xs l cap B W (hr : Rd W B A'' (bvs xs)) hl hB hl2 => lays_any A'' xs l cap B T[k] (HOK.out k hkl) W hr hl hB hl2)
   have HT := hid (HST.out k hkl)
   have HTL : Hid (T[k].t.size ≤ 200 ∧ (ssB T[k]).length = 34 + T[k].t.size) := hid ⟨(HOK.out k hkl).t, ssB_len _⟩
   have HC5 : Hid ((Ss.cells T[k]).length = 5) := hid (Ss.len _)
   have HC1 : Hid ((Ss.cells T[k]).all (·.oneCell') = true) := hid (Ss.one _)
   generalize T[k].t.size = tz at *
   generalize ssB T[k] = sB at *
   generalize Ss.cells T[k] = X at *
   have HRG := hid hrg
   have hi0 : (0 : Int) ≤ (k : Int) := by omega
   have hi1 : (k : Int) < (n : Int) := by omega
   clear hbe hrd hrg
   go_wp2_with (first
    | (refine wpList_load_mid rfl 75 (.tmp 21) rfl ga (o + k * 5) rfl X _ HRG.out Tryz.underlying75 rfl (by rw [HC5.out]; exact HZ.out) ?_)
    | (refine wpl_store_st rfl (.tmp 7) (.tmp 22) rfl HZ.out wr.heap.size ss0.cells X rfl rfl (Row.new _ _ _) ?_ (hid rfl) (hid HC5.out) (hid HC1.out); intro w4 hr4 hg4; have hb4 : Below wr.heap.size wr w4 := ((Below.refl _ _).alloc (Nat.le_refl _) _).trans (below_grown hg4 (Nat.le_refl _) (by simp)); have HB4 := hid hb4; have HR4 := hid hr4; clear hb4 hg4 hr4)
    | (refine wpList_load_row rfl 75 (.tmp 7) rfl wr.heap.size rfl 75 X.toArray (0, 0) _ HR4.out.arr' Tryz.underlying75 rfl (by rw [List.size_toArray, HC5.out]; exact HZ.out) ?_)
    | (go_at_call 70; refine (HLY.out _ _ _ _ _ _ (HRD.out.below HB4.out (Nat.le_refl _)) HM.out HB4.out.size (by omega)).mono ?_; rintro e w5 ⟨A5, c5, rfl, hrd5, hb5⟩))
   exact ⟨⟨k + 1, _, A5, c5, by omega, by have := HTL.out.1; omega, hid (by rw [HT.out, List.length_append, ← HM.out, HTL.out.2]), by go_num, rfl, hid (by rw [HT.out]; exact hrd5), HBE.out.trans ((HB4.out.trans (hb5.mono HB4.out.size)).mono HBE.out.size)⟩, by simp [intOf]; omega⟩
  ·
   obtain rfl : k = n := by omega
   clear hbe
   go_wp2_with (with_reducible refine wpl_str rfl _ 85 9 rfl 5 Tryz.underlying85 Tryz.underlying5 Tryz.underlying9 A' m c' rfl wr.heap.size (packK T k) ?_ (hid HRD.out) (hid HM.out))
   go_ret
   exact ⟨by rw [HALL.out]; rfl, HB2.out.trans (HBE.out.mono HB2.out.size)⟩
theorem pack_any8 (p : Nat) (fp : List Nat) (T : List Ss) (w : World) (h : Gk8 94 p T fp w) : Calls Tryz.prog 43 #[.pointer (some ⟨p, 0, none⟩)] w (SE w (pack T)) := by
 obtain ⟨v, -, h⟩ := h
 exact pack_has p v T w h
end Go.Proofs.YtgednnjmcjhfmaaGreatDoor
