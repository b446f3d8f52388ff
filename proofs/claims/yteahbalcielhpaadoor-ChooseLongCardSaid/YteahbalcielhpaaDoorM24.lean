/-
  The program's counting: the logs that count.
-/
import Derived.Test.YteahbalcielhpaaDoorM21
import Derived.Test.YteahbalcielhpaaDoorM23
import Derived.Test.YteahbalcielhpaaDoorM20
import Derived.Test.YteahbalcielhpaaDoorM22
import Derived.Test.YteahbalcielhpaaDoorM09
namespace Go.Proofs.YteahbalcielhpaaDoor
open Go.RowKit
set_option maxRecDepth 10000

theorem Rd_le {W : World} {B B' : Nat} {A : Option Addr} {l : List Value} (h : Rd W B A l) (hb : B ≤ B') : Rd W B' A l := fun hne => by
  obtain ⟨g, o, e, hg, hx⟩ := h hne
  exact ⟨g, o, e, Nat.lt_of_lt_of_le hg hb, hx⟩
theorem PlOk.le {W : World} {B B' : Nat} {m : Ms} {p : Pl} (h : PlOk W B m p) (hb : B ≤ B') : PlOk W B' m p := ⟨Rd_le h.a hb, Rd_le h.b hb, h.la, h.lb, h.ca, h.cb⟩
/-! ### in plain words -/
def pickQ (L : List LP) (who : Int) : Option LP := L.foldl (fun r x => if logOk who x.1 then some x else r) none
def pk18 (count : Int) (L : List LP) (j : Nat) : Option LP := if (j : Int) + 1 ≤ count then pickQ L ((j : Int) + 1) else none
def logsQ (count : Int) (L : List LP) : List LP := (List.range 5).filterMap (pk18 count L)
theorem pickQ_eq (L : List LP) (who : Int) : (pickQ L who).map Prod.fst = pickC (L.map Prod.fst) who := by
  have key : ∀ (L : List LP) (r : Option LP), (L.foldl (fun r x => if logOk who x.1 then some x else r) r).map Prod.fst = (L.map Prod.fst).foldl (fun r m => if logOk who m then some m else r) (r.map Prod.fst) := by
    intro L
    induction L with
    | nil => intro r; rfl
    | cons x L ih =>
      intro r
      rw [List.map_cons, List.foldl_cons, List.foldl_cons, ih]
      by_cases h : logOk who x.1
      · rw [if_pos h, if_pos h]; rfl
      · rw [if_neg h, if_neg h]
  exact key L none
theorem logsQ_eq (count : Int) (L : List LP) : (logsQ count L).map Prod.fst = logsC count (L.map Prod.fst) := by
  have h1 : (logsQ count L).map Prod.fst = (List.range 5).filterMap fun j : Nat => if (j : Int) + 1 ≤ count then pickC (L.map Prod.fst) ((j : Int) + 1) else none := by
    unfold logsQ
    rw [List.map_filterMap]
    congr 1
    funext j
    unfold pk18
    by_cases h : (j : Int) + 1 ≤ count
    · rw [if_pos h, if_pos h]; exact pickQ_eq L _
    · rw [if_neg h, if_neg h]; rfl
  have h2 : ∀ (f : Int → Option Ms) (l : List Nat), ((l.map fun j : Nat => (j : Int) + 1).filter fun w => decide (w ≤ count)).filterMap f = l.filterMap fun j : Nat => if (j : Int) + 1 ≤ count then f ((j : Int) + 1) else none := by
    intro f l
    induction l with
    | nil => rfl
    | cons j l ih =>
      rw [List.map_cons, List.filter_cons, List.filterMap_cons]
      by_cases h : (j : Int) + 1 ≤ count
      · rw [if_pos (by simpa using h), List.filterMap_cons, ih, if_pos h]
      · rw [if_neg (by simpa using h), ih, if_neg h]
  rw [h1]
  exact (h2 (pickC (L.map Prod.fst)) (List.range 5)).symm
theorem pickQ_mem {L : List LP} {who : Int} {x : LP} (h : pickQ L who = some x) : x ∈ L ∧ logOk who x.1 := by
  have key : ∀ (L : List LP) (r : Option LP), L.foldl (fun r x => if logOk who x.1 then some x else r) r = some x → (x ∈ L ∧ logOk who x.1) ∨ r = some x := by
    intro L
    induction L with
    | nil => intro r h; exact .inr h
    | cons y L ih =>
      intro r h
      rcases ih _ h with ⟨h1, h2⟩ | h1
      · exact .inl ⟨by simp [h1], h2⟩
      · change (if logOk who y.1 then some y else r) = some x at h1
        by_cases hy : logOk who y.1
        · rw [if_pos hy] at h1; cases h1; exact .inl ⟨by simp, hy⟩
        · rw [if_neg hy] at h1; exact .inr h1
  rcases key L none h with h1 | h1
  · exact h1
  · cases h1
theorem pk18_mem {count : Int} {L : List LP} {j : Nat} {x : LP} (h : pk18 count L j = some x) : x ∈ L ∧ LogR x.1 := by
  unfold pk18 at h
  split at h
  · obtain ⟨h1, h2⟩ := pickQ_mem h
    exact ⟨h1, h2.1, h2.2.2⟩
  · cases h
theorem logsQ_mem {count : Int} {L : List LP} {x : LP} (h : x ∈ logsQ count L) : x ∈ L ∧ LogR x.1 := by
  obtain ⟨j, -, hj⟩ := List.mem_filterMap.1 h
  exact pk18_mem hj
theorem logsQ_fits {count : Int} {L : List LP} (hf : ∀ x ∈ L, x.1.fits) : LogF (logsQ count L) := fun _ hx => ⟨(logsQ_mem hx).2, hf _ (logsQ_mem hx).1⟩
theorem pickQ_snoc (L : List LP) (who : Int) (k : Nat) (h : k < L.length) : pickQ (L.take (k + 1)) who = if logOk who L[k].1 then some L[k] else pickQ (L.take k) who := by
  unfold pickQ
  rw [List.take_succ_eq_append_getElem h, List.foldl_append]
  rfl
/-- the places behind each one's last log -/
def Bh (count : Int) (L : List LP) (k : Nat) (P : List Nat) : Prop := P.length = 5 ∧ ∀ j, j < 5 → pk18 count (L.take k) j = (if P.getD j 0 = 0 then none else L[P.getD j 0 - 1]?) ∧ P.getD j 0 ≤ L.length
def okC (count : Int) (x : Ms) : Prop := x.kind = 7 ∧ 1 ≤ x.frm ∧ x.frm ≤ count ∧ rightM x
theorem bh_skip {count : Int} {L : List LP} {k : Nat} {P : List Nat} (h : Bh count L k P) (hk : k < L.length) (hn : ¬ okC count L[k].1) : Bh count L (k + 1) P := by
  refine ⟨h.1, fun j hj => ?_⟩
  rw [← (h.2 j hj).1]
  refine ⟨?_, (h.2 j hj).2⟩
  unfold pk18
  by_cases hc : (j : Int) + 1 ≤ count
  · rw [if_pos hc, if_pos hc, pickQ_snoc L _ k hk, if_neg]
    rintro ⟨h1, h2, h3⟩
    exact hn ⟨h1, by omega, by omega, h3⟩
  · rw [if_neg hc, if_neg hc]
theorem bh_set {count : Int} {L : List LP} {k : Nat} {P : List Nat} (h : Bh count L k P) (hk : k < L.length) (hy : okC count L[k].1) (j0 : Nat) (hj0 : L[k].1.frm = (j0 : Int) + 1) (hj5 : j0 < 5) : Bh count L (k + 1) (P.set j0 (k + 1)) := by
  refine ⟨by rw [List.length_set]; exact h.1, fun j hj => ?_⟩
  obtain ⟨y1, y2, y3, y4⟩ := hy
  rw [List.getD_eq_getElem?_getD]
  by_cases e : j0 = j
  · subst e
    rw [List.getElem?_set_self (by rw [h.1]; exact hj5)]
    simp only [Option.getD_some, Nat.add_sub_cancel]
    rw [if_neg (by omega)]
    refine ⟨?_, by omega⟩
    unfold pk18
    rw [if_pos (by omega), pickQ_snoc L _ k hk, if_pos ⟨y1, hj0, y4⟩, List.getElem?_eq_getElem hk]
  · rw [List.getElem?_set_ne e, ← List.getD_eq_getElem?_getD]
    rw [← (h.2 j hj).1]
    refine ⟨?_, (h.2 j hj).2⟩
    unfold pk18
    by_cases hc : (j : Int) + 1 ≤ count
    · rw [if_pos hc, if_pos hc, pickQ_snoc L _ k hk, if_neg]
      rintro ⟨h1, h2, h3⟩
      omega
    · rw [if_neg hc, if_neg hc]
theorem bh_zero (count : Int) (L : List LP) : Bh count L 0 [0, 0, 0, 0, 0] := by
  refine ⟨rfl, fun j hj => ?_⟩
  have e : [0, 0, 0, 0, 0].getD j 0 = 0 := by
    match j, hj with
    | 0, _ => rfl
    | 1, _ => rfl
    | 2, _ => rfl
    | 3, _ => rfl
    | 4, _ => rfl
  rw [e, if_pos rfl]
  refine ⟨?_, Nat.zero_le _⟩
  unfold pk18
  split <;> rfl
/-- the list so far -/
def ls18 (count : Int) (L : List LP) (j : Nat) : List LP := (List.range j).filterMap (pk18 count L)
theorem ls18_snoc (count : Int) (L : List LP) (j : Nat) : ls18 count L (j + 1) = ls18 count L j ++ (match pk18 count L j with | some x => [x] | none => []) := by
  unfold ls18
  rw [List.range_succ, List.filterMap_append, List.filterMap_cons, List.filterMap_nil]
  cases pk18 count L j <;> rfl
theorem ls18_len (count : Int) (L : List LP) (j : Nat) : (ls18 count L j).length ≤ j := by
  unfold ls18
  exact Nat.le_trans (List.length_filterMap_le ..) (by simp)
def nvs (P : List Nat) : List Value := P.map fun n : Nat => .int .i64 (n : Int)
theorem nvs_set (P : List Nat) (j v : Nat) : (nvs P).set j (.int .i64 (v : Int)) = nvs (P.set j v) := by simp [nvs, List.map_set]
theorem nvs_get (P : List Nat) (j : Nat) (h : P.length = 5) (hj : j < 5) : (nvs P)[j]? = some (.int .i64 ((P.getD j 0 : Nat) : Int)) := by
  rw [List.getD_eq_getElem?_getD]
  simp only [nvs, List.getElem?_map]
  rw [List.getElem?_eq_getElem (by omega)]
  rfl
theorem size5 : (Tryd.prog.info? 66).map (·.size) = some 5 := by kernel_rfl
theorem infoMs : (Tryd.prog.info? 34).map (fun i => (i.zero, i.size, i.bytes)) = some (some (.agg z33), 33, 312) := by kernel_rfl
theorem wpl_index_arr18 {P : Program} {w : World} {ops : Array Oper} {rest : List Oper} {o : Oper} {a : Act} {Q : Exit → Act → World → Prop} (hgd : o.guard = none) (t : TypeId) (x y : Operand) (ho : o.op = .index t x y)
    (e n : Nat) (cs : Array Value) (k : IntKind) (i : Nat) (v : Value) (hx : a.eval x = .agg cs) (hy : a.eval y = .int k (i : Int)) (ik : IntKind) (h : P.underlying t = some (.array n e)) (he : P.underlying e = some (.int ik))
    (hs : (P.info? e).map (·.size) = some 1) (hi : i < n) (hv : cs[i]? = some v) (hK : wpList P ops Q rest (a.put o.dst v) w) : wpList P ops Q (o :: rest) a w := by
  refine wpl_run (by simp [Region.wanted, hgd]) v (fun w => ?_) hK
  unfold execOp
  simp only [ho, hx, hy, run_index_arr w t e n cs k i v ik h he hs hi hv, Sem.run_bind, Sem.run_pure, Result.andThen_ok]
/-- what counting answers -/
def LQ (w : World) (M : List LP) (e : Ending) (w' : World) : Prop := ∃ A c, e = .returned (.slice A M.length c) ∧ M.length ≤ c ∧ Below w.heap.size w w' ∧ Lm w' w'.heap.size A M
set_option maxHeartbeats 8000000 in
theorem counting_any (count : Int) (A : Option Addr) (L : List LP) (n c B : Nat) (w : World) (hr : Lm w B A L) (hf : ∀ x ∈ L, x.1.fits) (hn : n = L.length) (hc : n ≤ c) (hB : B ≤ w.heap.size) (hb : n ≤ 9223372036854775806) (hcnt : count = 3 ∨ count = 5) (hfd : Fd w) (hmd : Md w) :
    Calls Tryd.prog 15 #[.int .i64 count, .slice A n c] w (LQ w (logsQ count L)) := by
  have hz := zero33
  have hzs := z33_size
  have hzn := z33_ne
  have HZS := hid mssize
  have HZ5 := hid size5
  have HN := hid hn
  have HR : Hid (∀ W, Below w.heap.size w W → Lm W B A L) := hid fun W hW => hr.below hW hB
  have HRT := hid (fun (x : LP) (hx : x ∈ L) (W : World) (hW : Below w.heap.size w W) => mright_any x.1 x.2 B W ((hr.pl x hx).below hW hB) (Nat.le_trans hB hW.size) (hf x hx) (hfd.below hW hfd.1) (hmd.below hW hmd.1))
  have HSK := hid (fun (k : Nat) (P : List Nat) (h : Bh count L k P) (hk : k < L.length) (hn : ¬ okC count L[k].1) => bh_skip h hk hn)
  have HSE := hid (fun (k : Nat) (P : List Nat) (h : Bh count L k P) (hk : k < L.length) (hn : okC count L[k].1) => bh_set h hk hn)
  obtain ⟨i0, hi, hz0, hz1, hz2⟩ := info_parts infoMs
  have HNX : Hid (∀ (W : World) (X : List Value), Hid (Rd (W.alloc (.cells X.toArray 34)) (W.heap.size + 1) (some ⟨W.heap.size, 0, none⟩) X)) := hid fun W X => hid (new_rdM 34 W X)
  have HB0 : Hid (Below w.heap.size w (w.alloc (.cells #[.int .i64 0, .int .i64 0, .int .i64 0, .int .i64 0, .int .i64 0] 66))) := hid ((Below.refl _ _).alloc (Nat.le_refl _) _)
  have R0 : Hid (Row (w.alloc (.cells #[.int .i64 0, .int .i64 0, .int .i64 0, .int .i64 0, .int .i64 0] 66)) w.heap.size 66 (nvs [0, 0, 0, 0, 0])) := hid (show Row _ _ _ (#[.int .i64 0, .int .i64 0, .int .i64 0, .int .i64 0, .int .i64 0] : Array Value).toList from Row.new _ _ _)
  have HCN := hid hcnt
  clear hr hn hf hfd hmd hcnt
  go_enter Tryd.func15, Tryd.ntmps15
  go_wp2_with fail
  go_loopw [13] (fun i wr => ∃ k : Nat, k ≤ n ∧ i = .int .i64 (k : Int) ∧ ∃ P : List Nat, Hid (Bh count L k P) ∧ Hid (Row wr w.heap.size 66 (nvs P)) ∧ Hid (Below w.heap.size w wr)) (fun i _ => n - (intOf i).toNat)
  case atStart => exact ⟨0, by omega, rfl, [0, 0, 0, 0, 0], hid (bh_zero _ _), R0, HB0⟩
  case round =>
    clear R0 HB0
    obtain ⟨k, hk, rfl, P, HP, RP, HBE⟩ := hrel
    by_cases hlt : k < n
    · have hkl : k < L.length := by rw [← HN.out]; exact hlt
      obtain ⟨g, o, rfl, hg, hrg⟩ := (HR.out wr HBE.out).at_ k hkl
      have HRG : Hid (wr.rangeAt g (o + k * 33) (Array.toList (L[k].1.cells L[k].2))) := hid hrg
      have HRX := hid (HRT.out L[k] (List.getElem_mem hkl))
      have HNO := hid (HSK.out k P HP.out hkl)
      have HYE := hid (HSE.out k P HP.out hkl)
      have HP5 := hid HP.out.1
      generalize L[k] = X at *
      have hi1 : (k : Int) < (n : Int) := by omega
      have hi0 : (0 : Int) ≤ (k : Int) := by omega
      have HLT : Hid (w.heap.size < wr.heap.size) := hid RP.out.lt
      clear hrg hkl hg HR HRT HSK HSE HP
      cases h7 : (X.1.kind == 7)
      case false =>
        have HX := hid (HNO.out (fun h => by have := h.1; rw [this] at h7; cases h7))
        clear HNO HYE
        go_wp2_with (first
          | ((with_reducible show wpList _ _ _ ({ dst := some 17, op := _, type := _, pos := _, after := _, guard := _ } :: _) _ _); refine wpList_load_mid rfl 34 (.tmp 16) rfl g (o + k * 33) rfl (Array.toList (X.1.cells X.2)) _ (HRG.out) Tryd.underlying34 rfl (by exact HZS.out) ?_)
          | ((with_reducible show wpList _ _ _ ({ dst := none, op := .store _ (.tmp 7) (.tmp 17), type := _, pos := _, after := _, guard := _ } :: _) _ _); refine wpl_store_st rfl (.tmp 7) (.tmp 17) rfl HZS.out (wr.heap.size) (z33) (X.1.cells X.2) rfl rfl (Row.new _ _ _) ?_ (hid (by first | rfl | simp)) (hid (by first | rfl | simp)) (hid (msc_one _ _)); intro w1 hr1 hg; have RM := hid hr1; have HB1 := hid ((HBE.out.alloc HBE.out.size (.cells z33 34)).trans (below_grown hg (by have := HBE.out.size; omega) (by simp; have := HBE.out.size; omega))); have RP1 := hid ((RP.out.alloc (.cells z33 34)).grown hg (by intro e; have := Option.some.inj e; have := HLT.out; omega)); have c0 : w1.cell? ⟨wr.heap.size, 0, none⟩ = some (.int .i64 X.1.kind) := hr1.cell 0; have c1 : w1.cell? ⟨wr.heap.size, 1, none⟩ = some (.int .i64 X.1.frm) := hr1.cell 1; clear hr1 hg))
        go_roundw
        case rel => exact ⟨k + 1, by omega, by go_num, P, HX, RP1, HB1⟩
        case measure => simp [intOf]; omega
      case true =>
        by_cases h1 : 1 ≤ X.1.frm
        case neg =>
          have d1 : decide (1 ≤ X.1.frm) = false := decide_eq_false h1
          have HX := hid (HNO.out (fun h => h1 h.2.1))
          clear HNO HYE
          go_wp2_with (first
          | ((with_reducible show wpList _ _ _ ({ dst := some 17, op := _, type := _, pos := _, after := _, guard := _ } :: _) _ _); refine wpList_load_mid rfl 34 (.tmp 16) rfl g (o + k * 33) rfl (Array.toList (X.1.cells X.2)) _ (HRG.out) Tryd.underlying34 rfl (by exact HZS.out) ?_)
          | ((with_reducible show wpList _ _ _ ({ dst := none, op := .store _ (.tmp 7) (.tmp 17), type := _, pos := _, after := _, guard := _ } :: _) _ _); refine wpl_store_st rfl (.tmp 7) (.tmp 17) rfl HZS.out (wr.heap.size) (z33) (X.1.cells X.2) rfl rfl (Row.new _ _ _) ?_ (hid (by first | rfl | simp)) (hid (by first | rfl | simp)) (hid (msc_one _ _)); intro w1 hr1 hg; have RM := hid hr1; have HB1 := hid ((HBE.out.alloc HBE.out.size (.cells z33 34)).trans (below_grown hg (by have := HBE.out.size; omega) (by simp; have := HBE.out.size; omega))); have RP1 := hid ((RP.out.alloc (.cells z33 34)).grown hg (by intro e; have := Option.some.inj e; have := HLT.out; omega)); have c0 : w1.cell? ⟨wr.heap.size, 0, none⟩ = some (.int .i64 X.1.kind) := hr1.cell 0; have c1 : w1.cell? ⟨wr.heap.size, 1, none⟩ = some (.int .i64 X.1.frm) := hr1.cell 1; clear hr1 hg))
          go_roundw
          case rel => exact ⟨k + 1, by omega, by go_num, P, HX, RP1, HB1⟩
          case measure => simp [intOf]; omega
        have d1 : decide (1 ≤ X.1.frm) = true := decide_eq_true h1
        by_cases h2 : X.1.frm ≤ count
        case neg =>
          have d2 : decide (X.1.frm ≤ count) = false := decide_eq_false h2
          have HX := hid (HNO.out (fun h => h2 h.2.2.1))
          clear HNO HYE
          go_wp2_with (first
          | ((with_reducible show wpList _ _ _ ({ dst := some 17, op := _, type := _, pos := _, after := _, guard := _ } :: _) _ _); refine wpList_load_mid rfl 34 (.tmp 16) rfl g (o + k * 33) rfl (Array.toList (X.1.cells X.2)) _ (HRG.out) Tryd.underlying34 rfl (by exact HZS.out) ?_)
          | ((with_reducible show wpList _ _ _ ({ dst := none, op := .store _ (.tmp 7) (.tmp 17), type := _, pos := _, after := _, guard := _ } :: _) _ _); refine wpl_store_st rfl (.tmp 7) (.tmp 17) rfl HZS.out (wr.heap.size) (z33) (X.1.cells X.2) rfl rfl (Row.new _ _ _) ?_ (hid (by first | rfl | simp)) (hid (by first | rfl | simp)) (hid (msc_one _ _)); intro w1 hr1 hg; have RM := hid hr1; have HB1 := hid ((HBE.out.alloc HBE.out.size (.cells z33 34)).trans (below_grown hg (by have := HBE.out.size; omega) (by simp; have := HBE.out.size; omega))); have RP1 := hid ((RP.out.alloc (.cells z33 34)).grown hg (by intro e; have := Option.some.inj e; have := HLT.out; omega)); have c0 : w1.cell? ⟨wr.heap.size, 0, none⟩ = some (.int .i64 X.1.kind) := hr1.cell 0; have c1 : w1.cell? ⟨wr.heap.size, 1, none⟩ = some (.int .i64 X.1.frm) := hr1.cell 1; clear hr1 hg))
          go_roundw
          case rel => exact ⟨k + 1, by omega, by go_num, P, HX, RP1, HB1⟩
          case measure => simp [intOf]; omega
        have d2 : decide (X.1.frm ≤ count) = true := decide_eq_true h2
        by_cases h3 : rightM X.1
        case neg =>
          rw [decide_eq_false h3] at HRX
          have HX := hid (HNO.out (fun h => h3 h.2.2.2))
          clear HNO HYE h3
          go_wp2_with (first
          | ((with_reducible show wpList _ _ _ ({ dst := some 17, op := _, type := _, pos := _, after := _, guard := _ } :: _) _ _); refine wpList_load_mid rfl 34 (.tmp 16) rfl g (o + k * 33) rfl (Array.toList (X.1.cells X.2)) _ (HRG.out) Tryd.underlying34 rfl (by exact HZS.out) ?_)
          | ((with_reducible show wpList _ _ _ ({ dst := none, op := .store _ (.tmp 7) (.tmp 17), type := _, pos := _, after := _, guard := _ } :: _) _ _); refine wpl_store_st rfl (.tmp 7) (.tmp 17) rfl HZS.out (wr.heap.size) (z33) (X.1.cells X.2) rfl rfl (Row.new _ _ _) ?_ (hid (by first | rfl | simp)) (hid (by first | rfl | simp)) (hid (msc_one _ _)); intro w1 hr1 hg; have RM := hid hr1; have HB1 := hid ((HBE.out.alloc HBE.out.size (.cells z33 34)).trans (below_grown hg (by have := HBE.out.size; omega) (by simp; have := HBE.out.size; omega))); have RP1 := hid ((RP.out.alloc (.cells z33 34)).grown hg (by intro e; have := Option.some.inj e; have := HLT.out; omega)); have c0 : w1.cell? ⟨wr.heap.size, 0, none⟩ = some (.int .i64 X.1.kind) := hr1.cell 0; have c1 : w1.cell? ⟨wr.heap.size, 1, none⟩ = some (.int .i64 X.1.frm) := hr1.cell 1; clear hr1 hg)
          | ((with_reducible show wpList _ _ _ ({ dst := some 33, op := _, type := _, pos := _, after := _, guard := _ } :: _) _ _); refine wpl_load_want rfl 34 (.tmp 7) rfl (wr.heap.size) rfl 34 (X.1.cells X.2) (0, 0) _ (Row.arr RM.out) Tryd.underlying34 rfl HZS.out ?_)
          | (go_at_call 26; refine (HRX.out _ HB1.out).mono ?_; rintro e w2 ⟨rfl, hb⟩; have HB2 := hid (HB1.out.trans (hb.mono HB1.out.size)); have RP2 := hid (RP1.out.below hb RP1.out.lt); have RM2 := hid (RM.out.below hb RM.out.lt); have c1b : w2.cell? ⟨wr.heap.size, 1, none⟩ = some (.int .i64 X.1.frm) := RM2.out.cell 1; clear hb))
          go_roundw
          case rel => exact ⟨k + 1, by omega, by go_num, P, HX, RP2, HB2⟩
          case measure => simp [intOf]; omega
        rw [decide_eq_true h3] at HRX
        obtain ⟨j, hj⟩ : ∃ j : Nat, X.1.frm = (j : Int) + 1 := ⟨(X.1.frm - 1).toNat, by omega⟩
        have hj5 : j < 5 := by rcases HCN.out with h | h <;> omega
        have HX := hid (HYE.out ⟨by simpa using h7, h1, h2, h3⟩ j hj hj5)
        have HJ := hid hj
        have hjj : (j : Int) < 5 := by omega
        have hj0 : (0 : Int) ≤ (j : Int) := by omega
        have HSET : Hid ((nvs P).set j (.int .i64 ((k : Int) + 1)) = nvs (P.set j (k + 1))) := hid (by rw [← nvs_set]; rfl)
        have HJL : Hid (j < (nvs P).length) := hid (by simp [nvs, HP5.out]; exact hj5)
        have HZ1 := hid sizeInt
        clear HNO HYE h3 hj
        go_wp2_with (first
          | ((with_reducible show wpList _ _ _ ({ dst := some 17, op := _, type := _, pos := _, after := _, guard := _ } :: _) _ _); refine wpList_load_mid rfl 34 (.tmp 16) rfl g (o + k * 33) rfl (Array.toList (X.1.cells X.2)) _ (HRG.out) Tryd.underlying34 rfl (by exact HZS.out) ?_)
          | ((with_reducible show wpList _ _ _ ({ dst := none, op := .store _ (.tmp 7) (.tmp 17), type := _, pos := _, after := _, guard := _ } :: _) _ _); refine wpl_store_st rfl (.tmp 7) (.tmp 17) rfl HZS.out (wr.heap.size) (z33) (X.1.cells X.2) rfl rfl (Row.new _ _ _) ?_ (hid (by first | rfl | simp)) (hid (by first | rfl | simp)) (hid (msc_one _ _)); intro w1 hr1 hg; have RM := hid hr1; have HB1 := hid ((HBE.out.alloc HBE.out.size (.cells z33 34)).trans (below_grown hg (by have := HBE.out.size; omega) (by simp; have := HBE.out.size; omega))); have RP1 := hid ((RP.out.alloc (.cells z33 34)).grown hg (by intro e; have := Option.some.inj e; have := HLT.out; omega)); have c0 : w1.cell? ⟨wr.heap.size, 0, none⟩ = some (.int .i64 X.1.kind) := hr1.cell 0; have c1 : w1.cell? ⟨wr.heap.size, 1, none⟩ = some (.int .i64 X.1.frm) := hr1.cell 1; clear hr1 hg)
          | ((with_reducible show wpList _ _ _ ({ dst := some 33, op := _, type := _, pos := _, after := _, guard := _ } :: _) _ _); refine wpl_load_want rfl 34 (.tmp 7) rfl (wr.heap.size) rfl 34 (X.1.cells X.2) (0, 0) _ (Row.arr RM.out) Tryd.underlying34 rfl HZS.out ?_)
          | (go_at_call 26; refine (HRX.out _ HB1.out).mono ?_; rintro e w2 ⟨rfl, hb⟩; have HB2 := hid (HB1.out.trans (hb.mono HB1.out.size)); have RP2 := hid (RP1.out.below hb RP1.out.lt); have RM2 := hid (RM.out.below hb RM.out.lt); have c1b : w2.cell? ⟨wr.heap.size, 1, none⟩ = some (.int .i64 ((j : Int) + 1)) := (by rw [← HJ.out]; exact RM2.out.cell 1); clear hb)
          | ((with_reducible show wpList _ _ _ ({ dst := none, op := .store _ (.tmp 41) (.tmp 40), type := _, pos := _, after := _, guard := _ } :: _) _ _); refine wpl_store_c rfl 3 (.tmp 41) (.tmp 40) rfl w.heap.size j (.int .i64 ((k : Int) + 1)) rfl rfl RP2.out HZ1.out ?_ HJL (hid rfl); intro w9 hr9 hg9))
        go_roundw
        case rel => exact ⟨k + 1, by omega, by go_num, P.set j (k + 1), HX, hid (by rw [← HSET.out]; exact hr9), hid (HB2.out.trans (below_grown hg9 (Nat.le_refl _) HB2.out.size))⟩
        case measure => simp [intOf]; omega
    · obtain rfl : k = n := by omega
      have HPK : Hid (∀ j, j < 5 → pk18 count L j = (if P.getD j 0 = 0 then none else L[P.getD j 0 - 1]?) ∧ P.getD j 0 ≤ L.length) := hid (by
        have h := HP.out.2
        rw [List.take_of_length_le (by rw [HN.out]; exact Nat.le_refl _)] at h
        exact h)
      have HP5 := hid HP.out.1
      have HG5 := hid (fun (j : Nat) (hj : j < 5) => nvs_get P j HP5.out hj)
      have HNV : Hid ((nvs P).toArray.size = 5) := hid (by simp [nvs, HP5.out])
      have HO0 : Hid (wr.ownsRow w.heap.size 34 33 (.slice none 0 0) 0 []) := hid ⟨rfl, .inl ⟨rfl, rfl⟩⟩
      obtain ⟨wL, hwL⟩ : ∃ W, W = wr := ⟨wr, rfl⟩
      subst hwL
      clear HP HSK HSE HRT
      go_wp2_with (first
        | ((with_reducible show wpList _ _ _ ({ dst := some 43, op := _, type := _, pos := _, after := _, guard := _ } :: _) _ _); refine wpList_load_row rfl 66 (.tmp 5) rfl w.heap.size rfl 66 (nvs P).toArray (0, 0) _ (Row.arr (cs := (nvs P).toArray) RP.out) Tryd.underlying66 rfl (by rw [HNV.out]; exact HZ5.out) ?_))
      go_loopw [8, 44] (fun v i wr => ∃ j : Nat, j ≤ 5 ∧ i = .int .i64 (j : Int) ∧ Hid (wr.ownsRow w.heap.size 34 33 v (ls18 count L j).length (rws lpC (ls18 count L j))) ∧ Hid (Below w.heap.size w wr)) (fun _ i _ => 5 - (intOf i).toNat)
      case atStart => exact ⟨0, by omega, rfl, HO0, HBE⟩
      case round =>
        clear HO0 RP HBE
        obtain ⟨j, hj, rfl, HO, HBE⟩ := hrel
        obtain ⟨A1, c1, rfl, hnc, hrd⟩ := own_rdM HO.out
        by_cases hlt5 : j < 5
        · clear hrd
          have hjj : (j : Int) < 5 := by omega
          have hj0 : (0 : Int) ≤ (j : Int) := by omega
          obtain ⟨hp1, hp2⟩ := HPK.out j hlt5
          have HV := hid (HG5.out j hlt5)
          have HSN := hid (ls18_snoc count L j)
          have HLL := hid (ls18_len count L j)
          generalize P.getD j 0 = v at *
          by_cases hv : v = 0
          · subst hv
            rw [if_pos rfl] at hp1
            rw [hp1] at HSN
            have HSN2 : Hid (ls18 count L (j + 1) = ls18 count L j) := hid (by rw [HSN.out]; exact List.append_nil _)
            clear hp1 HSN
            go_wp2_with (first
              | ((with_reducible show wpList _ _ _ ({ dst := some 46, op := _, type := _, pos := _, after := _, guard := _ } :: _) _ _); refine wpl_index_arr18 rfl 66 (.tmp 43) (.tmp 44) rfl _ 5 (nvs P).toArray .i64 j _ rfl rfl .i64 Tryd.underlying66 Tryd.underlying3 sizeInt hlt5 (by simpa using HV.out) ?_))
            go_roundw
            case rel => exact ⟨j + 1, by omega, by go_num, by rw [HSN2.out]; exact HO, HBE⟩
            case measure => simp [intOf]; omega
          · rw [if_neg hv] at hp1
            have hvl : v - 1 < L.length := by omega
            obtain ⟨g, o, rfl, hg, hrg⟩ := (HR.out wr HBE.out).at_ (v - 1) hvl
            rw [List.getElem?_eq_getElem hvl] at hp1
            rw [hp1] at HSN
            have HRG : Hid (wr.rangeAt g (o + (v - 1) * 33) (Array.toList (L[v - 1].1.cells L[v - 1].2))) := hid hrg
            generalize L[v - 1] = X at *
            obtain ⟨u, rfl⟩ : ∃ u, v = u + 1 := ⟨v - 1, by omega⟩
            simp only [Nat.add_sub_cancel] at HRG hvl
            have hv0 : (0 : Int) < ((u + 1 : Nat) : Int) := by omega
            have hw : wrap64 (((u + 1 : Nat) : Int) - 1) = (u : Int) := by have := HN.out; rw [show ((u + 1 : Nat) : Int) - 1 = (u : Int) by omega]; exact IntWalk.wrap64_in _ (by constructor <;> omega)
            have hun : (u : Int) < (k : Int) := by have := HN.out; omega
            have hu0 : (0 : Int) ≤ (u : Int) := by omega
            clear hp1 hrg hg hv
            go_wp2_with (first
              | ((with_reducible show wpList _ _ _ ({ dst := some 46, op := _, type := _, pos := _, after := _, guard := _ } :: _) _ _); refine wpl_index_arr18 rfl 66 (.tmp 43) (.tmp 44) rfl _ 5 (nvs P).toArray .i64 j _ rfl rfl .i64 Tryd.underlying66 Tryd.underlying3 sizeInt hlt5 (by simpa using HV.out) ?_)
              | ((with_reducible show wpList _ _ _ ({ dst := some 54, op := _, type := _, pos := _, after := _, guard := _ } :: _) _ _); refine wpList_load_mid rfl 34 (.tmp 53) rfl g (o + u * 33) rfl (Array.toList (X.1.cells X.2)) _ (HRG.out) Tryd.underlying34 rfl (by exact HZS.out) ?_)
              | (refine wpl_slice1M rfl 22 34 (.tmp 54) rfl i0 _ 33 Tryd.underlying22 hi hz0 hz1 (by decide) (by decide) (Array.toList (X.1.cells X.2)) rfl rfl ?_)
              | (refine wpl_append rfl (.tmp 49) (.tmp 55) 22 rfl w.heap.size 34 i0 _ 33 312 Tryd.underlying22 hi hz0 hz1 hz2 rfl (by omega) (.slice A1 (ls18 count L j).length c1) (ls18 count L j).length _ rfl (own_allocM HO.out _) (wr.heap.size + 1) (some ⟨wr.heap.size, 0, none⟩) 1 1 (Array.toList (X.1.cells X.2)) rfl ?_ (HNX.out wr (Array.toList (X.1.cells X.2))) (hid rfl) (hid (by have := msc_one X.1 X.2; rw [Array.all_eq_true'] at this; intro u hu; exact this u (by simpa using hu))) (hid (le_maxLen (by have := HLL.out; omega))) (hid (by have := HLL.out; omega)) (hid (by have := HBE.out.size; simp; omega)); intro v6 w6 hown6 hb6 hg6; have HO6 := hid hown6; have HB6 := hid ((HBE.out.alloc HBE.out.size (.cells (Array.toList (X.1.cells X.2)).toArray 34)).trans hb6); clear hown6 hb6 hg6))
            go_roundw
            case rel =>
              refine ⟨j + 1, by omega, by go_num, ?_, HB6⟩
              rw [HSN.out]
              refine hid ?_
              rw [rws_app, List.length_append]
              exact HO6.out
            case measure => simp [intOf]; omega
        · obtain rfl : j = 5 := by omega
          have HL := hid (HR.out wr HBE.out)
          go_wp2_with fail
          go_ret
          exact ⟨A1, c1, rfl, hnc, HBE.out, hrd, fun x hx => (HL.out.pl x (logsQ_mem hx).1).le (Nat.le_trans hB HBE.out.size)⟩
end Go.Proofs.YteahbalcielhpaaDoor
/-
  The program's chosen, Choose.
-/
namespace Go.Proofs.YteahbalcielhpaaDoor
open Go.RowKit
set_option maxRecDepth 10000

abbrev enC (e : En) : List Value := e.cells.toList
theorem own_block_lt {w : World} {B : Nat} {e : TypeId} {size n : Nat} {v : Value} {xs : List Value} (h : w.ownsRow B e size v n xs) {g : Nat} (hg : v.ownBlock = some g) : g < w.heap.size := by
  obtain ⟨h1, h2⟩ := h
  rcases h2 with ⟨rfl, h0⟩ | ⟨g', cap, cur, rfl, a, b, c, d, e1, f⟩
  · cases hg
  · cases hg
    exact (Array.getElem?_eq_some_iff.1 b).1
theorem own_drewM {w : World} {B : Nat} {e : TypeId} {size n : Nat} {v : Value} {xs : List Value} (h : w.ownsRow B e size v n xs) : w.drew.ownsRow B e size v n xs := h
theorem own_grownM {w w' : World} {B : Nat} {e : TypeId} {size n : Nat} {v : Value} {xs : List Value} {x : Nat} (h : w.ownsRow B e size v n xs) (hg : w.grownBy w' (some x)) (hx : x < B := by omega) : w'.ownsRow B e size v n xs := by
  obtain ⟨h1, h2⟩ := h
  refine ⟨h1, ?_⟩
  rcases h2 with h2 | ⟨g, cap, cur, hv, hg', hh, r⟩
  · exact .inl h2
  · exact .inr ⟨g, cap, cur, hv, hg', by rw [hg.block g (Array.getElem?_eq_some_iff.1 hh).1 (by intro e; have := Option.some.inj e; omega)]; exact hh, r⟩
/-- the entry that is next -/
def nxQ (L : List LP) (m : Mk) : En := hldQ L (m.opn + 1) (stbQ L (m.opn + 1)).2
theorem goP18_one (L : List LP) (k : Nat) (m : Mk) : goP18 (L.map Prod.fst) (k + 1) m = if Fol m (nxQ L m) then nxQ L m :: goP18 (L.map Prod.fst) k (markE (nxQ L m)) else [] := by
  unfold nxQ
  rw [hldQ_eq, stbQ_eq]
  rfl
theorem saysC_mem {m : Ms} {n : Int} (h : (saysC m n).kind = 1) : saysC m n ∈ m.xs := by
  rcases says_mem (m := m) n with h1 | h1
  · exact h1
  · rw [h1] at h; cases h
theorem hldQ_fits {L : List LP} (hf : LogF L) (n : Int) (s : St) : (hldQ L n s).fits := by
  unfold hldQ
  split
  · rename_i x hx
    have h1 := List.mem_of_find?_eq_some hx
    have h2 := List.find?_some hx
    have h3 : (saysC x.1 n).kind = 1 ∧ (saysC x.1 n).stub = s := by simpa [isH] using h2
    exact ((hf x h1).2.2.2.2.2.2.2 _ (saysC_mem h3.1)).2.2
  · exact en0_fitsM
theorem markE_opn {e : En} (he : e.fits) (h : Rt e) : (markE e).opn = e.opn := by
  unfold markE
  rw [if_pos (packE_rt he h).1]
/-- what chosen answers -/
def EQ18 (w : World) (es : List En) (e : Ending) (w' : World) : Prop := ∃ A c, e = .returned (.slice A es.length c) ∧ es.length ≤ c ∧ Below w.heap.size w w' ∧ w'.ownsRow w.heap.size 30 9 (.slice A es.length c) es.length (rws enC es)
set_option maxHeartbeats 8000000 in
theorem chosen_any (m0 : Mk) (A : Option Addr) (L : List LP) (q c B : Nat) (w : World) (hr : Lm w B A L) (hf : LogF L) (hn : q = L.length) (hc : q ≤ c) (hB : B ≤ w.heap.size) (hb : q ≤ 9223372036854775807) (hm : 0 ≤ m0.opn ∧ m0.opn ≤ 72057594037927935) (hfd : Fd w) :
    Calls Tryd.prog 19 #[.agg m0.cells, .slice A q c] w (EQ18 w (goP18 (L.map Prod.fst) 8 m0)) := by
  have HZE := hid esize
  have HZK := hid msize
  have HZS := hid sizeStr
  have HST := hid (fun (n : Int) (hn1 : 1 ≤ n ∧ n ≤ 1152921504606846976) (W : World) (hW : Below w.heap.size w W) => stub_any18 n A L q c B W (hr.below hW hB) hf hn hc (Nat.le_trans hB hW.size) hb hn1)
  have HHO := hid (fun (n : Int) (s : St) (hn1 : 1 ≤ n ∧ n ≤ 1152921504606846976) (W : World) (hW : Below w.heap.size w W) => holding_any n s A L q c B W (hr.below hW hB) hf hn hc (Nat.le_trans hB hW.size) hb hn1)
  have HFO := hid (fun (m : Mk) (e : En) (W : World) => efol_any m e W)
  have HCL := hid (fun (e : En) (W : World) (h : e.body.size ≤ 281474976710656) => clone_any e.body W h)
  have HMK := hid (fun (e : En) (he : e.fits) (W : World) (hW : Below w.heap.size w W) => emark_any e he W (hfd.below hW hfd.1))
  have HFT := hid (fun (n : Int) (s : St) => hldQ_fits hf n s)
  have HONE := hid (fun (k : Nat) (m : Mk) => goP18_one L k m)
  have HNQ : Hid (∀ m : Mk, nxQ L m = hldQ L (m.opn + 1) (stbQ L (m.opn + 1)).2) := hid fun _ => rfl
  obtain ⟨i0, hi, hz0, hz1, hz2⟩ := info_parts infoEn
  have HNX : Hid (∀ (W : World) (X : List Value), Hid (Rd (W.alloc (.cells X.toArray 30)) (W.heap.size + 1) (some ⟨W.heap.size, 0, none⟩) X)) := hid fun W X => hid (new_rdM 30 W X)
  have HB0 : Hid (Below w.heap.size w (w.alloc (.cells m0.cells 27))) := hid ((Below.refl _ _).alloc (Nat.le_refl _) _)
  have R0 : Hid (Row (w.alloc (.cells m0.cells 27)) w.heap.size 27 m0.cells.toList) := hid (Row.new _ _ _)
  have HO0 : Hid ((w.alloc (.cells m0.cells 27)).ownsRow (w.heap.size + 1) 30 9 (.slice none 0 0) 0 []) := hid ⟨rfl, .inl ⟨rfl, rfl⟩⟩
  have HM := hid hm
  generalize L.map Prod.fst = l at *
  obtain ⟨END, hE⟩ : ∃ x, goP18 l 8 m0 = x := ⟨_, rfl⟩
  rw [hE]
  have HE := hid hE
  clear hr hn hf hfd hm hE
  go_enter Tryd.func19, Tryd.ntmps19
  go_wp2_with fail
  go_loopw [5, 8] (fun v i wr => ∃ k : Nat, k ≤ 8 ∧ i = .int .i64 (k : Int) ∧ ∃ (es : List En) (m : Mk), Hid (END = es ++ goP18 l (8 - k) m) ∧ Hid (es.length ≤ k) ∧ Hid (0 ≤ m.opn ∧ m.opn ≤ 72057594037927935) ∧ Hid (wr.ownsRow (w.heap.size + 1) 30 9 v es.length (rws enC es)) ∧ Hid (Row wr w.heap.size 27 m.cells.toList) ∧ Hid (Below w.heap.size w wr)) (fun _ i _ => 8 - (intOf i).toNat)
  case atStart => exact ⟨0, by omega, rfl, [], m0, hid HE.out.symm, hid (Nat.le_refl _), HM, HO0, R0, HB0⟩
  case round =>
    clear HO0 R0 HB0 HM HE
    obtain ⟨k, hk, rfl, es, m, HE, HEL, HM, HO, RK, HBE⟩ := hrel
    obtain ⟨A1, c1, rfl, hnc, -⟩ := own_rdM HO.out
    by_cases hlt : k < 8
    · have hi1 : (k : Int) < 8 := by omega
      have hi0 : (0 : Int) ≤ (k : Int) := by omega
      obtain ⟨d, hd⟩ : ∃ d, 8 - k = d + 1 := ⟨7 - k, by omega⟩
      have HD : Hid (d = 8 - (k + 1)) := hid (by omega)
      rw [hd, HONE.out d m] at HE
      have HFT2 := hid (HFT.out (m.opn + 1) (stbQ L (m.opn + 1)).2)
      have HNQ2 := hid (HNQ.out m)
      have hop := HM.out
      have hn1 : 1 ≤ m.opn + 1 ∧ m.opn + 1 ≤ 1152921504606846976 := by omega
      have HS1 := hid (HST.out (m.opn + 1) hn1)
      have HH1 := hid (HHO.out (m.opn + 1) (stbQ L (m.opn + 1)).2 hn1)
      have c0 : wr.cell? ⟨w.heap.size, 0, none⟩ = some (.int .i64 m.opn) := RK.out.cell 0
      have hop1 : 0 ≤ m.opn := hop.1
      have hop2 : m.opn ≤ 72057594037927935 := hop.2
      have HLT : Hid (w.heap.size < wr.heap.size) := hid RK.out.lt
      rw [HNQ2.out] at HE
      generalize hldQ L (m.opn + 1) (stbQ L (m.opn + 1)).2 = e at *
      generalize (stbQ L (m.opn + 1)).2 = s at *
      clear hd HST HHO HFT HONE HNQ hop hn1 HNQ2
      have HFX := hid (HFO.out m e)
      have HSZ : Hid (e.cells.size = 9) := hid rfl
      by_cases hfo : Fol m e
      · rw [if_pos hfo] at HE
        rw [decide_eq_true hfo] at HFX
        have HBD : Hid (e.body.size ≤ 281474976710656) := hid (by have := hfo.1.2.2.2.2.2.2.2.2; omega)
        have HMO := hid (markE_opn HFT2.out hfo.1)
        have HCX := hid (fun W => HCL.out e W HBD.out)
        have HMX := hid (HMK.out e HFT2.out)
        have HRTO : Hid (1 ≤ e.opn ∧ e.opn ≤ 72057594037927935) := hid hfo.1.1
        have HEN : Hid (END = (es ++ [e]) ++ goP18 l (8 - (k + 1)) (markE e)) := hid (by rw [← HD.out, List.append_assoc]; exact HE.out)
        generalize markE e = mk at *
        clear hfo HCL HMK HE HFO
        go_wp2_with (first
          | (go_at_call 34; refine (HS1.out _ HBE.out).mono ?_; rintro x w1 ⟨rfl, hb⟩; have HB1 := hid (HBE.out.trans (hb.mono HBE.out.size)); have RK1 := hid (RK.out.below hb RK.out.lt); have HW1 := hid (hb); have HLT1 := hid (show wr.heap.size ≤ w1.heap.size from HW1.out.size); clear hb)
          | (go_at_call 33; refine (HH1.out _ HB1.out).mono ?_; rintro x w2 ⟨rfl, hb⟩; have HB2 := hid (HB1.out.trans (hb.mono HB1.out.size)); have RK2 := hid (RK1.out.below hb RK1.out.lt); have HW2 := hid (HW1.out.trans (hb.mono HW1.out.size)); have HLT2 := hid (show wr.heap.size ≤ w2.heap.size from HW2.out.size); clear hb)
          | ((with_reducible show wpList _ _ _ ({ dst := none, op := .store _ (.tmp 7) (.tmp 18), type := _, pos := _, after := _, guard := _ } :: _) _ _); refine wpl_store_st rfl (.tmp 7) (.tmp 18) rfl HZE.out (w2.heap.size) (#[.int .i64 0, .int .i64 0, .int .i64 0, .int .u64 0, .int .i64 0, .int .i64 0, .int .i64 0, .int .i64 0, .string ⟨#[]⟩]) (e.cells) rfl rfl (Row.new _ _ _) ?_ (hid (by first | rfl | simp)) (hid (by first | rfl | simp)) (hid (ecells_one _)); intro w3 hr3 hg; have RE3 := hid hr3; have hb : Below w2.heap.size w2 w3 := ((Below.refl _ _).alloc (Nat.le_refl _) (.cells #[.int .i64 0, .int .i64 0, .int .i64 0, .int .u64 0, .int .i64 0, .int .i64 0, .int .i64 0, .int .i64 0, .string ⟨#[]⟩] 30)).trans (below_grown hg (Nat.le_refl _) (by simp)); clear hr3 hg; have HB3 := hid (HB2.out.trans (hb.mono HB2.out.size)); have RK3 := hid (RK2.out.below hb RK2.out.lt); have HW3 := hid (HW2.out.trans (hb.mono HW2.out.size)); have HLT3 := hid (show wr.heap.size ≤ w3.heap.size from HW3.out.size); clear hb)
          | ((with_reducible show wpList _ _ _ ({ dst := some 19, op := _, type := _, pos := _, after := _, guard := _ } :: _) _ _); refine wpList_load_row rfl 27 (.tmp 2) rfl (w.heap.size) rfl 27 (m.cells) (0, 0) _ (Row.arr RK3.out) Tryd.underlying27 rfl HZK.out ?_)
          | ((with_reducible show wpList _ _ _ ({ dst := some 20, op := _, type := _, pos := _, after := _, guard := _ } :: _) _ _); refine wpList_load_row rfl 30 (.tmp 7) rfl (w2.heap.size) rfl 30 (e.cells) (0, 0) _ (Row.arr RE3.out) Tryd.underlying30 rfl (by rw [HSZ.out]; exact HZE.out) ?_)
          | (go_at_call 35; refine (HFX.out _).mono ?_; rintro x w4 ⟨rfl, hb⟩; have RE4 := hid (RE3.out.below hb RE3.out.lt); have HB4 := hid (HB3.out.trans (hb.mono HB3.out.size)); have RK4 := hid (RK3.out.below hb RK3.out.lt); have HW4 := hid (HW3.out.trans (hb.mono HW3.out.size)); have HLT4 := hid (show wr.heap.size ≤ w4.heap.size from HW4.out.size); clear hb; have c8 : w4.cell? ⟨w2.heap.size, 8, none⟩ = some (.string e.body) := RE4.out.cell 8)
          | (go_at_call 22; refine (HCX.out _).mono ?_; rintro x w5 ⟨rfl, hb⟩; have RE5 := hid (RE4.out.below hb RE4.out.lt); have HB5 := hid (HB4.out.trans (hb.mono HB4.out.size)); have RK5 := hid (RK4.out.below hb RK4.out.lt); have HW5 := hid (HW4.out.trans (hb.mono HW4.out.size)); have HLT5 := hid (show wr.heap.size ≤ w5.heap.size from HW5.out.size); clear hb)
          | ((with_reducible show wpList _ _ _ ({ dst := none, op := .store _ (.tmp 26) (.tmp 25), type := _, pos := _, after := _, guard := _ } :: _) _ _); refine wpl_store_c rfl 9 (.tmp 26) (.tmp 25) rfl w2.heap.size 8 (.string e.body) rfl rfl RE5.out HZS.out ?_ (hid (by simp [En.cells])) (hid rfl); intro w6 hr6 hg; have RE6 : Hid (Row w6 w2.heap.size 30 e.cells.toList) := hid hr6; have RK6 := hid (RK5.out.grown hg (by intro x; have := Option.some.inj x; have := HLT2.out; have := HLT.out; omega)); have HB6 := hid (HB5.out.trans (below_grown hg (by have := HB2.out.size; omega) HB5.out.size)); have HW6 := hid (HW5.out.trans (below_grown hg HLT2.out HW5.out.size)); clear hr6 hg))
        have HO6 := hid (own_belowM HO.out HW6.out)
        have HXB : Hid (∀ x, (Value.slice A1 es.length c1).ownBlock = some x → x < w2.heap.size) := hid (fun x hx => Nat.lt_of_lt_of_le (own_block_lt HO.out hx) HLT2.out)
        have HLK := hid (show w.heap.size < w2.heap.size by have := HLT2.out; have := HLT.out; omega)
        clear c0 c8 HO HW1 HW2 HW3 HW4 HW5
        refine wp_region_held_drew (S := (fun W => Row W w2.heap.size 30 e.cells.toList ∧ (∃ z : Array Value, z.size = 3 ∧ Row W w.heap.size 27 z.toList) ∧ Below w.heap.size w W)) (by kernel_rfl) (⟨RE6.out.drew, ⟨_, (rfl : m.cells.size = 3), RK6.out.drew⟩, HB6.out.drew⟩) (fun hH => ?_)
        refine tk_ (i := 0) (v := .slice A1 es.length c1) rfl (Or.inl ⟨by rfl, fun w' hw' => by clear hw'; go_simp⟩) hH ?_
        simp only [Act.put, la1, la3, la4, la5, la6]
        refine tk_ (i := 1) (v := .agg (e.cells)) rfl (yieldsIf_load_mid rfl 30 (.tmp 7) rfl (w2.heap.size) 0 rfl (Array.toList (e.cells)) _ (fun W hW => Row.range hW.1) Tryd.underlying30 rfl (by exact HZE.out)) hH ?_
        simp only [Act.put, la1, la2, la3, la4, la5, la6]
        refine tk_ (i := 4) (v := .agg (e.cells)) rfl (yieldsIf_load_mid rfl 30 (.tmp 7) rfl (w2.heap.size) 0 rfl (Array.toList (e.cells)) _ (fun W hW => Row.range hW.1) Tryd.underlying30 rfl (by exact HZE.out)) hH ?_
        simp only [Act.put, la1, la2, la3, la4, la5, la6]
        refine rd1 (i := 2) (by kernel_rfl) rfl (fun K hK => ?_)
        rw [if_pos (by rfl)]
        refine wp_slice1M 31 30 (.tmp 28) rfl i0 _ 9 Tryd.underlying31 hi hz0 hz1 (by decide) (by decide) e.cells.toList rfl rfl ?_
        simp only [Act.put]
        refine hK.out _ _ (⟨hH.1.alloc _, hH.2.1.elim fun z h => ⟨z, h.1, h.2.alloc _⟩, hH.2.2.alloc hH.2.2.size _⟩) (fun hH => ?_)
        clear hK K
        try simp only [la1, la2, la3, la4, la5, la6]
        refine rd1 (i := 3) (by kernel_rfl) rfl (fun K hK => ?_)
        rw [if_pos (by rfl)]
        refine wpo_append (.tmp 27) (.tmp 29) 31 rfl (w.heap.size + 1) 30 i0 _ 9 80 Tryd.underlying31 hi hz0 hz1 hz2 rfl (by omega) (.slice A1 es.length c1) es.length _ rfl (own_allocM (own_drewM HO6.out) _) _ (some ⟨w6.heap.size, 0, none⟩) 1 1 (Array.toList e.cells) rfl ?_ (HNX.out _ (Array.toList e.cells)) (hid rfl) (hid (en_one e)) (hid (le_maxLen (by have := HEL.out; omega))) (hid (by have := HEL.out; omega)) (hid (by have h1 := HW6.out.size; have h2 := HLT.out; simp; omega))
        intro v6 w7 own7 hb7 hg7
        simp only [Act.put]
        refine hK.out _ _ (⟨hH.1.grown hg7.out (by intro x; exact absurd (HXB.out _ x.symm) (Nat.lt_irrefl _)), hH.2.1.elim fun z h => ⟨z, h.1, h.2.below hb7 (Nat.lt_succ_self _)⟩, hH.2.2.trans (hb7.mono (Nat.le_succ _))⟩) (fun hH => ?_)
        clear hK K
        try simp only [la1, la2, la3, la4, la5, la6]
        refine rd1 (i := 5) (by kernel_rfl) rfl (fun K hK => ?_)
        go_simp
        go_at_call 11
        refine (HMX.out _ hH.2.2).mono ?_
        rintro x w8 ⟨rfl, hb⟩
        go_wp2_with fail
        have own8 := own_belowM own7 hb
        refine hK.out _ _ (⟨hH.1.below hb hH.1.lt, hH.2.1.elim fun z h => ⟨z, h.1, h.2.below hb h.2.lt⟩, hH.2.2.trans (hb.mono hH.2.2.size)⟩) (fun hH => ?_)
        clear hK K
        try simp only [Act.put, la1, la2, la3, la4, la5, la6]
        refine rd1 (i := 6) (by kernel_rfl) rfl (fun K hK => ?_)
        go_simp
        refine hK.out _ _ (hH) (fun hH => ?_)
        clear hK K
        try simp only [Act.put, la1, la2, la3, la4, la5, la6]
        refine rd1 (i := 7) (by kernel_rfl) rfl (fun K hK => ?_)
        obtain ⟨he8, ⟨z, hz3, hk8⟩, hb8⟩ := hH
        rw [if_pos (by kernel_rfl)]
        refine wp_store_st (.tmp 2) (.tmp 32) rfl HZK.out w.heap.size z mk.cells rfl rfl hk8 hz3 rfl (mcells_one _) (fun w9 hr9 hg9 => ?_)
        have hb9 : Below w.heap.size w w9 := hb8.trans (below_grown hg9 (Nat.le_refl _) hb8.size)
        have own9 := own_grownM own8 hg9
        refine hK.out _ _ ⟨he8.grown hg9 (by intro x; have := Option.some.inj x; have := HLK.out; omega), ⟨_, (rfl : mk.cells.size = 3), hr9⟩, hb9⟩ (fun hH => ?_)
        clear hK K hH
        try simp only [Act.put, la1, la2, la3]
        refine wpAnyH_done (by kernel_rfl) ?_ _
        try simp only [Act.put, la1, la2, la3, la4, la5, la6]
        go_wp2_with fail
        go_roundw
        case rel =>
          refine ⟨k + 1, by omega, by go_num, es ++ [e], mk, HEN, hid (by rw [List.length_append]; have := HEL.out; simp; omega), hid (by rw [HMO.out]; have := HRTO.out; omega), ?_, hid hr9, hid hb9⟩
          refine hid ?_
          rw [rws_app, rws_one, List.length_append]
          exact own9
        case measure => simp [intOf]; omega
      · rw [if_neg hfo, List.append_nil] at HE
        rw [decide_eq_false hfo] at HFX
        obtain rfl := HE.out
        clear hfo HCL HMK HFO
        go_wp2_with (first
          | (go_at_call 34; refine (HS1.out _ HBE.out).mono ?_; rintro x w1 ⟨rfl, hb⟩; have HB1 := hid (HBE.out.trans (hb.mono HBE.out.size)); have RK1 := hid (RK.out.below hb RK.out.lt); have HW1 := hid (hb); have HLT1 := hid (show wr.heap.size ≤ w1.heap.size from HW1.out.size); clear hb)
          | (go_at_call 33; refine (HH1.out _ HB1.out).mono ?_; rintro x w2 ⟨rfl, hb⟩; have HB2 := hid (HB1.out.trans (hb.mono HB1.out.size)); have RK2 := hid (RK1.out.below hb RK1.out.lt); have HW2 := hid (HW1.out.trans (hb.mono HW1.out.size)); have HLT2 := hid (show wr.heap.size ≤ w2.heap.size from HW2.out.size); clear hb)
          | ((with_reducible show wpList _ _ _ ({ dst := none, op := .store _ (.tmp 7) (.tmp 18), type := _, pos := _, after := _, guard := _ } :: _) _ _); refine wpl_store_st rfl (.tmp 7) (.tmp 18) rfl HZE.out (w2.heap.size) (#[.int .i64 0, .int .i64 0, .int .i64 0, .int .u64 0, .int .i64 0, .int .i64 0, .int .i64 0, .int .i64 0, .string ⟨#[]⟩]) (e.cells) rfl rfl (Row.new _ _ _) ?_ (hid (by first | rfl | simp)) (hid (by first | rfl | simp)) (hid (ecells_one _)); intro w3 hr3 hg; have RE3 := hid hr3; have hb : Below w2.heap.size w2 w3 := ((Below.refl _ _).alloc (Nat.le_refl _) (.cells #[.int .i64 0, .int .i64 0, .int .i64 0, .int .u64 0, .int .i64 0, .int .i64 0, .int .i64 0, .int .i64 0, .string ⟨#[]⟩] 30)).trans (below_grown hg (Nat.le_refl _) (by simp)); clear hr3 hg; have HB3 := hid (HB2.out.trans (hb.mono HB2.out.size)); have RK3 := hid (RK2.out.below hb RK2.out.lt); have HW3 := hid (HW2.out.trans (hb.mono HW2.out.size)); have HLT3 := hid (show wr.heap.size ≤ w3.heap.size from HW3.out.size); clear hb)
          | ((with_reducible show wpList _ _ _ ({ dst := some 19, op := _, type := _, pos := _, after := _, guard := _ } :: _) _ _); refine wpList_load_row rfl 27 (.tmp 2) rfl (w.heap.size) rfl 27 (m.cells) (0, 0) _ (Row.arr RK3.out) Tryd.underlying27 rfl HZK.out ?_)
          | ((with_reducible show wpList _ _ _ ({ dst := some 20, op := _, type := _, pos := _, after := _, guard := _ } :: _) _ _); refine wpList_load_row rfl 30 (.tmp 7) rfl (w2.heap.size) rfl 30 (e.cells) (0, 0) _ (Row.arr RE3.out) Tryd.underlying30 rfl (by rw [HSZ.out]; exact HZE.out) ?_)
          | (go_at_call 35; refine (HFX.out _).mono ?_; rintro x w4 ⟨rfl, hb⟩; have RE4 := hid (RE3.out.below hb RE3.out.lt); have HB4 := hid (HB3.out.trans (hb.mono HB3.out.size)); have RK4 := hid (RK3.out.below hb RK3.out.lt); have HW4 := hid (HW3.out.trans (hb.mono HW3.out.size)); have HLT4 := hid (show wr.heap.size ≤ w4.heap.size from HW4.out.size); clear hb))
        go_ret
        exact ⟨A1, c1, rfl, hnc, HB4.out, own_base (own_belowM HO.out HW4.out) (Nat.le_succ _)⟩
    · obtain rfl : k = 8 := by omega
      have HE2 : Hid (END = es) := hid (by rw [HE.out]; exact List.append_nil _)
      obtain rfl := HE2.out
      go_wp2_with fail
      go_ret
      exact ⟨A1, c1, rfl, hnc, HBE.out, own_base HO.out (Nat.le_succ _)⟩
end Go.Proofs.YteahbalcielhpaaDoor
