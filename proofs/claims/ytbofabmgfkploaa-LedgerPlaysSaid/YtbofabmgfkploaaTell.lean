/-
  The walks of what package ledger tells: layAccount, layTransfer, tell, clones, layAll, Pack.
-/
import Derived.Test.YtbofabmgfkploaaFind
import Derived.Test.YtbofabmgfkploaaWholep
namespace Go.Proofs.Ytbofabmgfkploaa
open Go.RowKit
set_option maxRecDepth 10000

theorem trL_le (x : Tr) : (trL x).length ≤ 32 := by rw [trL_len]; exact Nat.le_refl _
/-- a list, in new memory -/
def LS {α : Type} (C : α → List Value) (w : World) (l : List α) (e : Ending) (w' : World) : Prop :=
  ∃ A c, e = .returned (.slice A l.length c) ∧ l.length ≤ c ∧ Rd w' w'.heap.size A (rows C l) ∧ Below w.heap.size w w' ∧ NewA w A
/-- []T{x}, x a value of many cells, as a step of the walk -/
theorem wpl_slice1 {P : Program} {ops : Array Oper} {rest : List Oper} {o : Oper} {a : Act} {w : World} {Q : Exit → Act → World → Prop} (hgd : o.guard = none) (t e : TypeId) (x : Operand) (ho : o.op = .buildSlice t 1 #[(0, x)])
    (ie : TypeInfo) (z : Value) (size : Nat) (hu : P.underlying t = some (.slice e)) (hie : P.info? e = some ie) (hz : ie.zero = some z) (hs : ie.size = size) (hpos : 0 < size) (hsmall : size ≤ 16777216)
    (cs : List Value) (hx : a.eval x = .agg cs.toArray) (hl : cs.length = size)
    (h : wpList P ops Q rest (a.put o.dst (.slice (some ⟨w.heap.size, 0, none⟩) 1 1)) (w.alloc (.cells cs.toArray e))) : wpList P ops Q (o :: rest) a w :=
  wpList_plain hgd fun _ hK => wp_slice1 t e x ho ie z size hu hie hz hs hpos hsmall cs hx hl (hK _ _ h)
theorem putL_one (x : Tr) : putL trB [x] = (trL x, 0) := by simp [putL, trB, trL]
theorem one_cat (b : UInt8) (bs : List UInt8) : (⟨#[b]⟩ : ByteArray) ++ ⟨bs.toArray⟩ = ⟨(b :: bs).toArray⟩ := cat_mk [b] bs
theorem one_cat2 (b : UInt8) (bs : List UInt8) : (⟨#[b]⟩ : ByteArray) ++ ⟨#[]⟩ ++ ⟨bs.toArray⟩ = ⟨(b :: bs).toArray⟩ := by
  have h1 := cat_mk [b] []
  have h2 := cat_mk ([b] ++ []) bs
  rw [← h1] at h2
  exact h2
theorem rows1 {α : Type} (C : α → List Value) (x : α) : rows C [x] = C x := by simp [rows]

set_option maxHeartbeats 400000 in
theorem laya_any (x : Ac) (hx : x.ok) (w : World) : Calls Try.prog 46 #[.agg x.cells.toArray] w (SE w (acB x)) := by
  have HP := hid (pw_any x hx)
  unfold acB
  obtain ⟨id, fl, db, cr⟩ := x
  generalize wholeB ⟨id, fl, db, cr⟩ = r at *
  obtain ⟨bs, er⟩ := r
  have HP2 : Hid (∀ W : World, Calls Try.prog 85 #[.agg #[.int .u64 (id : Int), .int .i64 fl, .int .u64 (db : Int), .int .u64 (cr : Int)]] W (SN W (bs, er))) := hid HP.out
  show Calls Try.prog 46 #[.agg #[.int .u64 (id : Int), .int .i64 fl, .int .u64 (db : Int), .int .u64 (cr : Int)]] w (SE w bs)
  clear HP hx
  go_enter Try.func46, Try.ntmps46
  go_wp2_with (go_at_call 85; refine (HP2.out _).mono ?_; rintro e w1 ⟨rfl, hb1⟩)
  go_ret
  exact ⟨rfl, ((Below.refl _ _).alloc (Nat.le_refl _) _).trans (hb1.mono (by simp))⟩
set_option maxHeartbeats 400000 in
theorem layt_any (x : Tr) (hx : x.ok) (w : World) : Calls Try.prog 48 #[.agg x.cells.toArray] w (SE w (trL x)) := by
  have HP := hid (fun A B W (hr : Rd W B A (rows Tr.cells [x])) hB => putt_list A [x] 1 1 B W hr rfl (Nat.le_refl _) hB (by intro y hy; rw [List.mem_singleton.1 hy]; exact hx))
  rw [putL_one, rows1] at HP
  obtain ⟨i0, hi, hz0, hz1, hz2⟩ := info_parts trInfo
  obtain ⟨a, b, c, d⟩ := x
  generalize trL ⟨a, b, c, d⟩ = bs at *
  have HP2 : Hid (∀ A B (W : World), Rd W B A [.int .u64 (a : Int), .int .u64 (b : Int), .int .u64 (c : Int), .int .u64 (d : Int)] → B ≤ W.heap.size → Calls Try.prog 25 #[.slice A 1 1] W (SN W (bs, 0))) := hid HP.out
  show Calls Try.prog 48 #[.agg #[.int .u64 (a : Int), .int .u64 (b : Int), .int .u64 (c : Int), .int .u64 (d : Int)]] w (SE w bs)
  have HR : Hid (Rd ((w.alloc (.cells #[.int .u64 (a : Int), .int .u64 (b : Int), .int .u64 (c : Int), .int .u64 (d : Int)] 43)).alloc (.cells #[.int .u64 (a : Int), .int .u64 (b : Int), .int .u64 (c : Int), .int .u64 (d : Int)] 43)) (w.heap.size + 2) (some ⟨w.heap.size + 1, 0, none⟩) [.int .u64 (a : Int), .int .u64 (b : Int), .int .u64 (c : Int), .int .u64 (d : Int)]) := hid (Row.rd (e := 43) (alloc2_new _ _ _) (by omega))
  clear HP hx
  go_enter Try.func48, Try.ntmps48
  go_wp2_with (first
    | (refine wpl_slice1 rfl 28 43 (.tmp 6) rfl i0 _ 4 Try.underlying28 hi hz0 hz1 (by decide) (by decide) [.int .u64 (a : Int), .int .u64 (b : Int), .int .u64 (c : Int), .int .u64 (d : Int)] rfl rfl ?_)
    | (go_at_call 25; refine (HP2.out _ _ _ HR.out (by simp)).mono ?_; rintro e w1 ⟨rfl, hb1⟩))
  go_ret
  exact ⟨rfl, (((Below.refl _ _).alloc (Nat.le_refl _) _).alloc (by simp) _).trans (hb1.mono (by simp; omega))⟩

set_option maxHeartbeats 400000 in
theorem tella_no (w : World) : Calls Try.prog 77 #[.pointer none, .func (.func 46) #[] #[]] w (SE w [0]) := by
  go_enter Try.func77, Try.ntmps77
  go_wp2_with fail
  go_ret
  exact ⟨rfl, Below.refl _ _⟩
set_option maxHeartbeats 400000 in
theorem tella_yes (g o : Nat) (x : Ac) (w : World) (hx : x.ok) (hl : (acB x).length ≤ 32) (hr : w.rangeAt g o (Ac.cells x)) : Calls Try.prog 77 #[.pointer (some ⟨g, o, none⟩), .func (.func 46) #[] #[]] w (SE w (1 :: acB x)) := by
  have HL := hid (laya_any x hx)
  have HC4 : Hid ((Ac.cells x).length = 4) := hid (Ac.len _)
  generalize acB x = bs at *
  generalize Ac.cells x = X at *
  have HR := hid hr
  have HZ := hid acSize
  have hq : ¬ (9223372036854775807 < 1 + bs.length) := by omega
  have hq2 : ¬ (9223372036854775807 < bs.length + 1) := by omega
  clear hr hl hx
  go_enter Try.func77, Try.ntmps77
  go_wp2_with (first
    | (refine wpList_load_mid rfl 45 (.tmp 9) rfl g o rfl X _ HR.out Try.underlying45 rfl (by rw [HC4.out]; exact HZ.out) ?_)
    | (go_at_call 46; refine (HL.out _).mono ?_; rintro e w1 ⟨rfl, hb1⟩))
  go_ret
  exact ⟨by rw [← one_cat2]; rfl, hb1⟩
theorem tela_any (p : Nat) (fp : List Nat) (S : Lg) (id : Nat) (w : World) (h : Gk 63 p S fp w) : Calls Try.prog 34 #[.pointer (some ⟨p, 0, none⟩), .int .u64 (id : Int)] w fun e w' => e = .returned (.string ⟨(tela S id).2.toArray⟩) ∧ Gw 63 p w fp (tela S id).1 w' := by
  have key : ∀ va vt, HasG w 63 p va vt S → Calls Try.prog 34 #[.pointer (some ⟨p, 0, none⟩), .int .u64 (id : Int)] w (SE w (tela S id).2) := by
    intro va vt h
    unfold tela
    by_cases hk : S.fa id < S.A.length
    · obtain ⟨g, c, -, -, hg⟩ := own_some h.accs (by omega : 0 < S.A.length)
      have HA := hid (account_yes p g (S.fa id) va vt S id w h hg rfl hk)
      have hl : (acB S.A[S.fa id]).length ≤ 32 := by exact Nat.le_trans (acB_le _) (by omega)
      have HT := hid (fun W (hW : Below w.heap.size w W) => tella_yes g (S.fa id * 4) S.A[S.fa id] W ((h.wf.oa _ (List.getElem_mem hk)).1) hl (by
        intro j v hv
        have hj : j < 4 := by
          have := (List.getElem?_eq_some_iff.1 hv).1
          rw [Ac.len] at this
          exact this
        have h2 := (h.below hW).accs.cells hg (S.fa id * 4 + j) v (by rw [rows_get Ac.len S.A _ j hk hj]; exact hv)
        rw [add_lit, Nat.zero_add] at h2
        exact h2))
      rw [if_pos hk, S.ac_get _ hk]
      generalize acB S.A[S.fa id] = bs at *
      generalize S.fa id = kk at *
      clear h hg hk hl
      go_enter Try.func34, Try.ntmps34
      go_wp2_with (first
        | (go_at_call 73; refine HA.out.mono ?_; rintro e w1 ⟨rfl, hb1⟩)
        | (go_at_call 77; refine (HT.out _ hb1).mono ?_; rintro e w2 ⟨rfl, hb2⟩))
      go_ret
      exact ⟨rfl, hb1.trans (hb2.mono hb1.size)⟩
    · have HA := hid (account_no p va vt S id w h hk)
      rw [if_neg hk]
      clear h hk
      go_enter Try.func34, Try.ntmps34
      go_wp2_with (first
        | (go_at_call 73; refine HA.out.mono ?_; rintro e w1 ⟨rfl, hb1⟩)
        | (go_at_call 77; refine (tella_no _).mono ?_; rintro e w2 ⟨rfl, hb2⟩))
      go_ret
      exact ⟨rfl, hb1.trans (hb2.mono hb1.size)⟩
  have hG := h
  obtain ⟨va, vt, rfl, h⟩ := h
  exact (key va vt h).mono fun e w' hh => ⟨hh.1, (Gw.start hG).below hh.2⟩

/-! ### clones -/
set_option maxHeartbeats 400000 in
theorem clonea_nil (w : World) : Calls Try.prog 43 #[.slice none 0 0] w (LS Ac.cells w []) := by
  have he : (binOp .eql 27 (.slice none 0 0) (.slice none 0 0)).run Try.prog w = .ok (.bool true) w := Lib.run_eql_slice_nil w _ _ none 0 0 0 0 Try.underlying27
  go_enter Try.func43, Try.ntmps43
  go_wp2_with fail
  go_ret
  exact ⟨none, 0, rfl, Nat.le_refl _, Rd.nil, Below.refl _ _, NewA.none _⟩
set_option maxHeartbeats 1000000 in
theorem clonea_some (g o : Nat) (l : List Ac) (n c B : Nat) (w : World) (hr : Rd w B (some ⟨g, o, none⟩) (rows Ac.cells l)) (hn : n = l.length) (hB : B ≤ w.heap.size) (hbig : n ≤ 100) :
    Calls Try.prog 43 #[.slice (some ⟨g, o, none⟩) n c] w (LS Ac.cells w l) := by
  obtain ⟨i0, hi, hz0, hz1, hz2⟩ := info_parts acInfo
  have HR := hid (fun W (hW : Below w.heap.size w W) => hr.below hW hB)
  have HL := hid (rows_len (C := Ac.cells) Ac.len l)
  have H1 := hid (rows_one (C := Ac.cells) (l := l) (fun x u hu => by
    simp only [Ac.cells, List.mem_cons, List.not_mem_nil, or_false] at hu
    rcases hu with rfl | rfl | rfl | rfl <;> rfl))
  have HN := hid hn
  have HE : Hid (∀ W : World, (W.alloc (.cells #[] 45)).ownsRow W.heap.size 45 4 (.slice (some ⟨W.heap.size, 0, none⟩) 0 0) 0 []) := hid fun W => own_empty (Row.new _ _ #[]) (Nat.le_refl _)
  have he : (binOp .eql 27 (.slice (some ⟨g, o, none⟩) n c) (.slice none 0 0)).run Try.prog w = .ok (.bool false) w := Lib.run_eql_slice_nil w _ _ (some ⟨g, o, none⟩) n c 0 0 Try.underlying27
  clear hr hn
  go_enter Try.func43, Try.ntmps43
  go_wp2_with (refine wpl_append rfl (.tmp 5) (.tmp 6) 27 rfl w.heap.size 45 i0 _ 4 32 Try.underlying27 hi hz0 hz1 hz2 rfl (by omega) (.slice (some ⟨w.heap.size, 0, none⟩) 0 0) 0 _ rfl (HE.out w) B (some ⟨g, o, none⟩) n c (rows Ac.cells l) rfl ?_ ?_ ?_ ?_ ?_ ?_ ?_; intro v' w2 hown2 hb2 hg2; have HO2 := hid hown2; have HB2 := hid hb2; clear hown2 hb2 hg2)
  rotate_left
  · exact hid (HR.out _ ((Below.refl _ _).alloc (Nat.le_refl _) _))
  · exact hid (by rw [HL.out, HN.out])
  · exact hid H1.out
  · exact hid (le_maxLen (by omega))
  · exact hid (by omega)
  · exact hid (by simp)
  go_ret
  have ho := HO2.out
  rw [Nat.zero_add, List.nil_append] at ho
  obtain ⟨A', c', rfl, hc', hrd⟩ := own_rd ho
  refine ⟨A', c', by rw [← HN.out]; rfl, by rw [← HN.out]; exact hc', hrd, ((Below.refl _ _).alloc (Nat.le_refl _) _).trans HB2.out, NewA.own ho⟩
set_option maxHeartbeats 400000 in
theorem alla_any (p : Nat) (va vt : Value) (S : Lg) (w : World) (h : HasG w 63 p va vt S) : Calls Try.prog 15 #[.pointer (some ⟨p, 0, none⟩)] w (LS Ac.cells w S.A) := by
  have hw := h.wf.la
  have hc0 := h.c0
  have HC : Hid (Calls Try.prog 43 #[va] w (LS Ac.cells w S.A)) := by
    obtain ⟨A, c, e, hnc, hrd⟩ := h.va_shape
    rcases h.accs.2 with ⟨e2, h0⟩ | ⟨g, cap, cur, e2, -⟩
    · have hnil : S.A = [] := List.eq_nil_of_length_eq_zero h0
      rw [e2, hnil]
      exact hid (clonea_nil w)
    · rw [e2] at e
      simp only [Value.slice.injEq, true_and] at e
      obtain ⟨rfl, rfl⟩ := e
      clear hnc
      rw [e2]
      exact hid (clonea_some g 0 S.A S.A.length cap w.heap.size w hrd rfl (Nat.le_refl _) (by omega))
  clear h
  go_enter Try.func15, Try.ntmps15
  go_wp2_with (go_at_call 43; refine HC.out.mono ?_; rintro e w2 ⟨A, c, rfl, hc, hrd, hb, hnew⟩)
  go_ret
  exact ⟨A, c, rfl, hc, hrd, hb, hnew⟩

/-! ### all of them as bytes -/
set_option maxHeartbeats 1000000 in
theorem layalla_any (A : Option Addr) (l : List Ac) (n c B : Nat) (w : World) (hr : Rd w B A (rows Ac.cells l)) (hn : n = l.length) (hnc : n ≤ c) (hB : B ≤ w.heap.size) (hbig : n ≤ 100) (hok : ∀ x ∈ l, x.ok) :
    Calls Try.prog 45 #[.slice A n c, .func (.func 46) #[] #[]] w (SE w (layL acB l)) := by
  have HO := hid (fun W => onebyte_any n W (by omega))
  have HR := hid hr
  have HN := hid hn
  have HOK := hid (fun k (hk : k < l.length) => hok l[k] (List.getElem_mem hk))
  have HZ := hid acSize
  have HLL : Hid (∀ k, (layL acB (l.take k)).length ≤ 1 + k * 32) := hid fun k => by
    have h1 : ∀ m : List Ac, (m.flatMap acB).length ≤ m.length * 32 := by
      intro m
      induction m with
      | nil => simp
      | cons x r ih =>
        have := acB_le x
        rw [List.flatMap_cons, List.length_append, List.length_cons, Nat.add_mul]
        omega
    have h2 := h1 (l.take k)
    have h3 : (l.take k).length * 32 ≤ k * 32 := Nat.mul_le_mul_right _ (List.length_take_le _ _)
    simp only [layL, List.length_cons]
    omega
  have HST : Hid (∀ k (hk : k < l.length), UInt8.ofNat n :: (l.take (k + 1)).flatMap acB = (UInt8.ofNat n :: (l.take k).flatMap acB) ++ acB l[k]) := hid fun k hk => by
    rw [List.take_succ_eq_append_getElem hk, List.flatMap_append]
    simp
  have HLN : Hid (∀ k, (UInt8.ofNat n :: (l.take k).flatMap acB).length ≤ 1 + k * 32) := hid fun k => by
    have := HLL.out k
    simp only [layL, List.length_cons] at this ⊢
    exact this
  have HEND : Hid (UInt8.ofNat n :: (l.take n).flatMap acB = layL acB l) := hid (by rw [List.take_of_length_le (by omega), layL, hn])
  clear hr hn hok HLL
  go_enter Try.func45, Try.ntmps45
  go_wp2_with (go_at_call 69; refine (HO.out _).mono ?_; rintro e w1 ⟨rfl, hb1⟩)
  go_loopw [5, 13] (fun sv i wr => ∃ k : Nat, k ≤ n ∧ i = .int .i64 k ∧ sv = .string ⟨(UInt8.ofNat n :: (l.take k).flatMap acB).toArray⟩ ∧ Below w.heap.size w wr) (fun _ i _ => n - (intOf i).toNat)
  case atStart => exact ⟨0, by omega, rfl, rfl, hb1⟩
  case round =>
    obtain ⟨k, hk, rfl, rfl, hbe⟩ := hrel
    have HBE := hid hbe
    by_cases hlt : k < n
    · have hkl : k < l.length := by rw [← HN.out]; exact hlt
      have hrd := HR.out.below hbe hB
      have hne : rows Ac.cells l ≠ [] := by
        intro e
        have := rows_len (C := Ac.cells) Ac.len l
        rw [e] at this
        simp at this
        omega
      obtain ⟨ga, o, rfl, hga, hx⟩ := (show _ from hrd) hne
      clear hx
      have hrg := hrd.range Ac.len k hkl
      have HL := hid (laya_any l[k] (HOK.out k hkl))
      have HS := hid (HST.out k hkl)
      have h1 := HLN.out k
      have h2 := acB_le l[k]
      have hq : ¬ (9223372036854775807 < (UInt8.ofNat n :: (l.take k).flatMap acB).length + (acB l[k]).length) := by omega
      have hC4 : (Ac.cells l[k]).length = 4 := Ac.len _
      have hC1 : ((Ac.cells l[k]).all (·.oneCell') = true) := rfl
      generalize Ac.cells l[k] = X at *
      generalize acB l[k] = bs at *
      generalize (UInt8.ofNat n :: (l.take k).flatMap acB) = acc at *
      have HC4 := hid hC4
      have HC1 := hid hC1
      have HRG := hid hrg
      clear hC4 hC1 hrg hrd hne hbe h1 h2
      go_wp2_with (first
        | (refine wpList_load_mid rfl 45 (.tmp 15) rfl ga (o + k * 4) rfl X _ HRG.out Try.underlying45 rfl (by rw [HC4.out]; exact HZ.out) ?_)
        | (refine wpl_store_st rfl (.tmp 7) (.tmp 16) rfl HZ.out wr.heap.size ac0.cells X rfl rfl (Row.new _ _ _) ?_ (hid rfl) (hid HC4.out) (hid HC1.out); intro w2 hr2 hg2; have hb2 : Below wr.heap.size wr w2 := ((Below.refl _ _).alloc (Nat.le_refl _) _).trans (below_grown hg2 (Nat.le_refl _) (by simp)))
        | (refine wpList_load_row rfl 45 (.tmp 7) rfl wr.heap.size rfl 45 X.toArray (0, 0) _ hr2.arr' Try.underlying45 rfl (by rw [List.size_toArray, HC4.out]; exact HZ.out) ?_)
        | (go_at_call 46; refine (HL.out _).mono ?_; rintro e w3 ⟨rfl, hb3⟩))
      exact ⟨⟨k + 1, by omega, by go_num, by rw [HS.out, ← cat_mk], HBE.out.trans ((hb2.trans (hb3.mono hb2.size)).mono HBE.out.size)⟩, by simp [intOf]; omega⟩
    · obtain rfl : k = n := by omega
      clear hbe
      go_wp2_with fail
      go_ret
      exact ⟨by rw [HEND.out]; rfl, HBE.out⟩

set_option maxHeartbeats 400000 in
theorem tellt_no (w : World) : Calls Try.prog 78 #[.pointer none, .func (.func 48) #[] #[]] w (SE w [0]) := by
  go_enter Try.func78, Try.ntmps78
  go_wp2_with fail
  go_ret
  exact ⟨rfl, Below.refl _ _⟩
set_option maxHeartbeats 400000 in
theorem tellt_yes (g o : Nat) (x : Tr) (w : World) (hx : x.ok) (hl : (trL x).length ≤ 32) (hr : w.rangeAt g o (Tr.cells x)) : Calls Try.prog 78 #[.pointer (some ⟨g, o, none⟩), .func (.func 48) #[] #[]] w (SE w (1 :: trL x)) := by
  have HL := hid (layt_any x hx)
  have HC4 : Hid ((Tr.cells x).length = 4) := hid (Tr.len _)
  generalize trL x = bs at *
  generalize Tr.cells x = X at *
  have HR := hid hr
  have HZ := hid trSize
  have hq : ¬ (9223372036854775807 < 1 + bs.length) := by omega
  have hq2 : ¬ (9223372036854775807 < bs.length + 1) := by omega
  clear hr hl hx
  go_enter Try.func78, Try.ntmps78
  go_wp2_with (first
    | (refine wpList_load_mid rfl 43 (.tmp 9) rfl g o rfl X _ HR.out Try.underlying43 rfl (by rw [HC4.out]; exact HZ.out) ?_)
    | (go_at_call 48; refine (HL.out _).mono ?_; rintro e w1 ⟨rfl, hb1⟩))
  go_ret
  exact ⟨by rw [← one_cat2]; rfl, hb1⟩
theorem telt_any (p : Nat) (fp : List Nat) (S : Lg) (id : Nat) (w : World) (h : Gk 63 p S fp w) : Calls Try.prog 35 #[.pointer (some ⟨p, 0, none⟩), .int .u64 (id : Int)] w fun e w' => e = .returned (.string ⟨(telt S id).2.toArray⟩) ∧ Gw 63 p w fp (telt S id).1 w' := by
  have key : ∀ va vt, HasG w 63 p va vt S → Calls Try.prog 35 #[.pointer (some ⟨p, 0, none⟩), .int .u64 (id : Int)] w (SE w (telt S id).2) := by
    intro va vt h
    unfold telt
    by_cases hk : S.ft id < S.T.length
    · obtain ⟨g, c, -, -, hg⟩ := own_some h.trs (by omega : 0 < S.T.length)
      have HA := hid (transfer_yes p g (S.ft id) va vt S id w h hg rfl hk)
      have hl : (trL S.T[S.ft id]).length ≤ 32 := by rw [trL_len]; exact Nat.le_refl _
      have HT := hid (fun W (hW : Below w.heap.size w W) => tellt_yes g (S.ft id * 4) S.T[S.ft id] W (h.wf.ot _ (List.getElem_mem hk)) hl (by
        intro j v hv
        have hj : j < 4 := by
          have := (List.getElem?_eq_some_iff.1 hv).1
          rw [Tr.len] at this
          exact this
        have h2 := (h.below hW).trs.cells hg (S.ft id * 4 + j) v (by rw [rows_get Tr.len S.T _ j hk hj]; exact hv)
        rw [add_lit, Nat.zero_add] at h2
        exact h2))
      rw [if_pos hk, S.tr_get _ hk]
      generalize trL S.T[S.ft id] = bs at *
      generalize S.ft id = kk at *
      clear h hg hk hl
      go_enter Try.func35, Try.ntmps35
      go_wp2_with (first
        | (go_at_call 79; refine HA.out.mono ?_; rintro e w1 ⟨rfl, hb1⟩)
        | (go_at_call 78; refine (HT.out _ hb1).mono ?_; rintro e w2 ⟨rfl, hb2⟩))
      go_ret
      exact ⟨rfl, hb1.trans (hb2.mono hb1.size)⟩
    · have HA := hid (transfer_no p va vt S id w h hk)
      rw [if_neg hk]
      clear h hk
      go_enter Try.func35, Try.ntmps35
      go_wp2_with (first
        | (go_at_call 79; refine HA.out.mono ?_; rintro e w1 ⟨rfl, hb1⟩)
        | (go_at_call 78; refine (tellt_no _).mono ?_; rintro e w2 ⟨rfl, hb2⟩))
      go_ret
      exact ⟨rfl, hb1.trans (hb2.mono hb1.size)⟩
  have hG := h
  obtain ⟨va, vt, rfl, h⟩ := h
  exact (key va vt h).mono fun e w' hh => ⟨hh.1, (Gw.start hG).below hh.2⟩

/-! ### clones -/
set_option maxHeartbeats 400000 in
theorem clonet_nil (w : World) : Calls Try.prog 44 #[.slice none 0 0] w (LS Tr.cells w []) := by
  have he : (binOp .eql 28 (.slice none 0 0) (.slice none 0 0)).run Try.prog w = .ok (.bool true) w := Lib.run_eql_slice_nil w _ _ none 0 0 0 0 Try.underlying28
  go_enter Try.func44, Try.ntmps44
  go_wp2_with fail
  go_ret
  exact ⟨none, 0, rfl, Nat.le_refl _, Rd.nil, Below.refl _ _, NewA.none _⟩
set_option maxHeartbeats 1000000 in
theorem clonet_some (g o : Nat) (l : List Tr) (n c B : Nat) (w : World) (hr : Rd w B (some ⟨g, o, none⟩) (rows Tr.cells l)) (hn : n = l.length) (hB : B ≤ w.heap.size) (hbig : n ≤ 100) :
    Calls Try.prog 44 #[.slice (some ⟨g, o, none⟩) n c] w (LS Tr.cells w l) := by
  obtain ⟨i0, hi, hz0, hz1, hz2⟩ := info_parts trInfo
  have HR := hid (fun W (hW : Below w.heap.size w W) => hr.below hW hB)
  have HL := hid (rows_len (C := Tr.cells) Tr.len l)
  have H1 := hid (rows_one (C := Tr.cells) (l := l) (fun x u hu => by
    simp only [Tr.cells, List.mem_cons, List.not_mem_nil, or_false] at hu
    rcases hu with rfl | rfl | rfl | rfl <;> rfl))
  have HN := hid hn
  have HE : Hid (∀ W : World, (W.alloc (.cells #[] 43)).ownsRow W.heap.size 43 4 (.slice (some ⟨W.heap.size, 0, none⟩) 0 0) 0 []) := hid fun W => own_empty (Row.new _ _ #[]) (Nat.le_refl _)
  have he : (binOp .eql 28 (.slice (some ⟨g, o, none⟩) n c) (.slice none 0 0)).run Try.prog w = .ok (.bool false) w := Lib.run_eql_slice_nil w _ _ (some ⟨g, o, none⟩) n c 0 0 Try.underlying28
  clear hr hn
  go_enter Try.func44, Try.ntmps44
  go_wp2_with (refine wpl_append rfl (.tmp 5) (.tmp 6) 28 rfl w.heap.size 43 i0 _ 4 32 Try.underlying28 hi hz0 hz1 hz2 rfl (by omega) (.slice (some ⟨w.heap.size, 0, none⟩) 0 0) 0 _ rfl (HE.out w) B (some ⟨g, o, none⟩) n c (rows Tr.cells l) rfl ?_ ?_ ?_ ?_ ?_ ?_ ?_; intro v' w2 hown2 hb2 hg2; have HO2 := hid hown2; have HB2 := hid hb2; clear hown2 hb2 hg2)
  rotate_left
  · exact hid (HR.out _ ((Below.refl _ _).alloc (Nat.le_refl _) _))
  · exact hid (by rw [HL.out, HN.out])
  · exact hid H1.out
  · exact hid (le_maxLen (by omega))
  · exact hid (by omega)
  · exact hid (by simp)
  go_ret
  have ho := HO2.out
  rw [Nat.zero_add, List.nil_append] at ho
  obtain ⟨A', c', rfl, hc', hrd⟩ := own_rd ho
  refine ⟨A', c', by rw [← HN.out]; rfl, by rw [← HN.out]; exact hc', hrd, ((Below.refl _ _).alloc (Nat.le_refl _) _).trans HB2.out, NewA.own ho⟩
set_option maxHeartbeats 400000 in
theorem allt_any (p : Nat) (va vt : Value) (S : Lg) (w : World) (h : HasG w 63 p va vt S) : Calls Try.prog 17 #[.pointer (some ⟨p, 0, none⟩)] w (LS Tr.cells w S.T) := by
  have hw := h.wf.lt
  have hc0 := h.c1
  have HC : Hid (Calls Try.prog 44 #[vt] w (LS Tr.cells w S.T)) := by
    obtain ⟨A, c, e, hnc, hrd⟩ := h.vt_shape
    rcases h.trs.2 with ⟨e2, h0⟩ | ⟨g, cap, cur, e2, -⟩
    · have hnil : S.T = [] := List.eq_nil_of_length_eq_zero h0
      rw [e2, hnil]
      exact hid (clonet_nil w)
    · rw [e2] at e
      simp only [Value.slice.injEq, true_and] at e
      obtain ⟨rfl, rfl⟩ := e
      clear hnc
      rw [e2]
      exact hid (clonet_some g 0 S.T S.T.length cap w.heap.size w hrd rfl (Nat.le_refl _) (by omega))
  clear h
  go_enter Try.func17, Try.ntmps17
  go_wp2_with (go_at_call 44; refine HC.out.mono ?_; rintro e w2 ⟨A, c, rfl, hc, hrd, hb, hnew⟩)
  go_ret
  exact ⟨A, c, rfl, hc, hrd, hb, hnew⟩

/-! ### all of them as bytes -/
set_option maxHeartbeats 1000000 in
theorem layallt_any (A : Option Addr) (l : List Tr) (n c B : Nat) (w : World) (hr : Rd w B A (rows Tr.cells l)) (hn : n = l.length) (hnc : n ≤ c) (hB : B ≤ w.heap.size) (hbig : n ≤ 100) (hok : ∀ x ∈ l, x.ok) :
    Calls Try.prog 47 #[.slice A n c, .func (.func 48) #[] #[]] w (SE w (layL trL l)) := by
  have HO := hid (fun W => onebyte_any n W (by omega))
  have HR := hid hr
  have HN := hid hn
  have HOK := hid (fun k (hk : k < l.length) => hok l[k] (List.getElem_mem hk))
  have HZ := hid trSize
  have HLL : Hid (∀ k, (layL trL (l.take k)).length ≤ 1 + k * 32) := hid fun k => by
    have h1 : ∀ m : List Tr, (m.flatMap trL).length ≤ m.length * 32 := by
      intro m
      induction m with
      | nil => simp
      | cons x r ih =>
        have := trL_le x
        rw [List.flatMap_cons, List.length_append, List.length_cons, Nat.add_mul]
        omega
    have h2 := h1 (l.take k)
    have h3 : (l.take k).length * 32 ≤ k * 32 := Nat.mul_le_mul_right _ (List.length_take_le _ _)
    simp only [layL, List.length_cons]
    omega
  have HST : Hid (∀ k (hk : k < l.length), UInt8.ofNat n :: (l.take (k + 1)).flatMap trL = (UInt8.ofNat n :: (l.take k).flatMap trL) ++ trL l[k]) := hid fun k hk => by
    rw [List.take_succ_eq_append_getElem hk, List.flatMap_append]
    simp
  have HLN : Hid (∀ k, (UInt8.ofNat n :: (l.take k).flatMap trL).length ≤ 1 + k * 32) := hid fun k => by
    have := HLL.out k
    simp only [layL, List.length_cons] at this ⊢
    exact this
  have HEND : Hid (UInt8.ofNat n :: (l.take n).flatMap trL = layL trL l) := hid (by rw [List.take_of_length_le (by omega), layL, hn])
  clear hr hn hok HLL
  go_enter Try.func47, Try.ntmps47
  go_wp2_with (go_at_call 69; refine (HO.out _).mono ?_; rintro e w1 ⟨rfl, hb1⟩)
  go_loopw [5, 13] (fun sv i wr => ∃ k : Nat, k ≤ n ∧ i = .int .i64 k ∧ sv = .string ⟨(UInt8.ofNat n :: (l.take k).flatMap trL).toArray⟩ ∧ Below w.heap.size w wr) (fun _ i _ => n - (intOf i).toNat)
  case atStart => exact ⟨0, by omega, rfl, rfl, hb1⟩
  case round =>
    obtain ⟨k, hk, rfl, rfl, hbe⟩ := hrel
    have HBE := hid hbe
    by_cases hlt : k < n
    · have hkl : k < l.length := by rw [← HN.out]; exact hlt
      have hrd := HR.out.below hbe hB
      have hne : rows Tr.cells l ≠ [] := by
        intro e
        have := rows_len (C := Tr.cells) Tr.len l
        rw [e] at this
        simp at this
        omega
      obtain ⟨ga, o, rfl, hga, hx⟩ := (show _ from hrd) hne
      clear hx
      have hrg := hrd.range Tr.len k hkl
      have HL := hid (layt_any l[k] (HOK.out k hkl))
      have HS := hid (HST.out k hkl)
      have h1 := HLN.out k
      have h2 := trL_le l[k]
      have hq : ¬ (9223372036854775807 < (UInt8.ofNat n :: (l.take k).flatMap trL).length + (trL l[k]).length) := by omega
      have hC4 : (Tr.cells l[k]).length = 4 := Tr.len _
      have hC1 : ((Tr.cells l[k]).all (·.oneCell') = true) := rfl
      generalize Tr.cells l[k] = X at *
      generalize trL l[k] = bs at *
      generalize (UInt8.ofNat n :: (l.take k).flatMap trL) = acc at *
      have HC4 := hid hC4
      have HC1 := hid hC1
      have HRG := hid hrg
      clear hC4 hC1 hrg hrd hne hbe h1 h2
      go_wp2_with (first
        | (refine wpList_load_mid rfl 43 (.tmp 15) rfl ga (o + k * 4) rfl X _ HRG.out Try.underlying43 rfl (by rw [HC4.out]; exact HZ.out) ?_)
        | (refine wpl_store_st rfl (.tmp 7) (.tmp 16) rfl HZ.out wr.heap.size tr0.cells X rfl rfl (Row.new _ _ _) ?_ (hid rfl) (hid HC4.out) (hid HC1.out); intro w2 hr2 hg2; have hb2 : Below wr.heap.size wr w2 := ((Below.refl _ _).alloc (Nat.le_refl _) _).trans (below_grown hg2 (Nat.le_refl _) (by simp)))
        | (refine wpList_load_row rfl 43 (.tmp 7) rfl wr.heap.size rfl 43 X.toArray (0, 0) _ hr2.arr' Try.underlying43 rfl (by rw [List.size_toArray, HC4.out]; exact HZ.out) ?_)
        | (go_at_call 48; refine (HL.out _).mono ?_; rintro e w3 ⟨rfl, hb3⟩))
      exact ⟨⟨k + 1, by omega, by go_num, by rw [HS.out, ← cat_mk], HBE.out.trans ((hb2.trans (hb3.mono hb2.size)).mono HBE.out.size)⟩, by simp [intOf]; omega⟩
    · obtain rfl : k = n := by omega
      clear hbe
      go_wp2_with fail
      go_ret
      exact ⟨by rw [HEND.out]; rfl, HBE.out⟩

set_option maxHeartbeats 400000 in
theorem pack_any (p : Nat) (va vt : Value) (S : Lg) (w : World) (h : HasG w 63 p va vt S) : Calls Try.prog 18 #[.pointer (some ⟨p, 0, none⟩)] w (SE w S.pack) := by
  have HA := hid (alla_any p va vt S w h)
  have HT := hid (fun W (hW : Below w.heap.size w W) => allt_any p va vt S W (h.below hW))
  have HLA := hid (fun A c W (hr : Rd W W.heap.size A (rows Ac.cells S.A)) hc => layalla_any A S.A S.A.length c W.heap.size W hr rfl hc (Nat.le_refl _) (by have := h.wf.la; omega) (fun x hx => (h.wf.oa x hx).1))
  have HLT := hid (fun A c W (hr : Rd W W.heap.size A (rows Tr.cells S.T)) hc => layallt_any A S.T S.T.length c W.heap.size W hr rfl hc (Nat.le_refl _) (by have := h.wf.lt; omega) h.wf.ot)
  have h1 : (layL acB S.A).length ≤ 1000 := by
    have key : ∀ m : List Ac, (m.flatMap acB).length ≤ m.length * 32 := by
      intro m
      induction m with
      | nil => simp
      | cons x r ih =>
        have := acB_le x
        rw [List.flatMap_cons, List.length_append, List.length_cons, Nat.add_mul]
        omega
    have := key S.A
    have := h.wf.la
    simp only [layL, List.length_cons]
    omega
  have h2 : (layL trL S.T).length ≤ 1000 := by
    have key : ∀ m : List Tr, (m.flatMap trL).length ≤ m.length * 32 := by
      intro m
      induction m with
      | nil => simp
      | cons x r ih =>
        have := trL_le x
        rw [List.flatMap_cons, List.length_append, List.length_cons, Nat.add_mul]
        omega
    have := key S.T
    have := h.wf.lt
    simp only [layL, List.length_cons]
    omega
  unfold Lg.pack
  generalize layL acB S.A = x1 at *
  generalize layL trL S.T = x2 at *
  have hq : ¬ (9223372036854775807 < x1.length + x2.length) := by omega
  clear h h1 h2
  go_enter Try.func18, Try.ntmps18
  go_wp2_with (first
    | (go_at_call 15; refine HA.out.mono ?_; rintro e w1 ⟨A1, c1, rfl, hc1, hrd1, hb1, -⟩)
    | (go_at_call 45; refine (HLA.out _ _ _ hrd1 hc1).mono ?_; rintro e w2 ⟨rfl, hb2⟩; have hbb := hb1.trans (hb2.mono hb1.size))
    | (go_at_call 17; refine (HT.out _ hbb).mono ?_; rintro e w3 ⟨A3, c3, rfl, hc3, hrd3, hb3, -⟩; have hbc := hbb.trans (hb3.mono hbb.size))
    | (go_at_call 47; refine (HLT.out _ _ _ hrd3 hc3).mono ?_; rintro e w4 ⟨rfl, hb4⟩))
  go_ret
  exact ⟨by rw [← cat_mk]; rfl, hbc.trans (hb4.mono hbc.size)⟩
end Go.Proofs.Ytbofabmgfkploaa
