/-
  The walk of ChooseChains.
-/
import Derived.Test.YteahbalcielhpaaGreatDoorZ26
namespace Go.Proofs.YteahbalcielhpaaGreatDoor
open Go.RowKit
set_option maxRecDepth 10000

theorem yields_eqe18 {ops : Array Oper} {S : World → Prop} {o : Oper} {a : Act} (hw : Region.wanted o (yielded ops a.tmps) = true) (s t : En) (b : Bool) (hb : Hid (b = true ↔ s = t)) (x y : Operand) (ty : TypeId) (ho : o.op = .binOp .eql 35 x y ty)
    (hx : a.eval x = .agg s.cells) (hy : a.eval y = .agg t.cells) : YieldsIf Tryz.prog ops S o (.bool b) a :=
  .inl ⟨hw, fun w _ => by
    have hEG := egEn
    have hE := eqEn2 9998 s t b hb.out w
    generalize s.cells = Z at *
    generalize t.cells = Y at *
    unfold execOp
    simp [ho, hx, hy, eqGuard, hEG, binOp, Op.equal, Op.maxDepth, hE, Result.andThen]⟩
/-- the choice's facts -/
theorem choose_facts (count : Int) (l : List Ms) : ((chooseC count l).ready = false ∧ chooseC count l = ch0) ∨
    ((chooseC count l).ready = true ∧ (chooseC count l).es.length ≤ 8 ∧ ChainC (logsC count l) (chooseC count l).check (chooseC count l).es ∧ (chooseC count l).check.opn ≤ (chooseC count l).commit) := by
  rcases choose_cases count l with e | ⟨_, _, es, hg, e⟩
  · exact .inl ⟨by rw [e]; rfl, e⟩
  · right
    rw [e]
    obtain ⟨h1, h2⟩ := go_chain (fun m hm => (logs_ok hm).2) _ 8 _ es hg
    refine ⟨rfl, h1, h2, ?_⟩
    show (farC (logsC count l)).check.opn ≤ if comC (logsC count l) < (farC (logsC count l)).check.opn then (farC (logsC count l)).check.opn else comC (logsC count l)
    split <;> omega
def isE18 (e : En) (x : LP) : Bool := decide ((saysC x.1 e.opn).kind = 1 ∧ (saysC x.1 e.opn).entry = e)
/-- entries that follow, and are held -/
def ChQ (M : List LP) : Mk → List En → Prop
  | _, [] => True
  | m, e :: r => Fol m e ∧ M.any (isE18 e) = true ∧ e.fits ∧ ChQ M (markE e) r
theorem chain_Q {M : List LP} (hM : LogF M) : ∀ (m : Mk) (es : List En), ChainC (M.map Prod.fst) m es → ChQ M m es
  | _, [], _ => trivial
  | m, e :: r, h => by
    obtain ⟨h1, ⟨x, hx, h2, h3⟩, h4⟩ := h
    obtain ⟨y, hy, rfl⟩ := List.mem_map.1 hx
    refine ⟨h1, List.any_eq_true.2 ⟨y, hy, decide_eq_true ⟨h2, h3⟩⟩, ?_, chain_Q hM _ r h4⟩
    rw [← h3]
    exact ((hM y hy).2.2.2.2.2.2.2 _ (saysC_mem h2)).2.2
theorem ch_drop {M : List LP} {m : Mk} {es : List En} {k : Nat} (h : k < es.length) (hq : ChQ M m (es.drop k)) : Fol m es[k] ∧ M.any (isE18 es[k]) = true ∧ es[k].fits ∧ ChQ M (markE es[k]) (es.drop (k + 1)) := by
  rw [← List.getElem_cons_drop h] at hq
  exact hq
theorem any_snoc18 {α : Type} (f : α → Bool) (l : List α) (k : Nat) (h : k < l.length) : (l.take (k + 1)).any f = ((l.take k).any f || f l[k]) := by
  rw [List.take_succ_eq_append_getElem h, List.any_append]
  simp
theorem ch_check (X : Ch) (A : Option Addr) (c : Nat) {W : World} {g : Nat} (h : Row W g 30 (chC X A c).toList) : W.rangeAt g 1 X.check.cells.toList := fun j v hv => by
  rw [h.cell]
  match j, hv with
  | 0, hv => exact hv
  | 1, hv => exact hv
  | 2, hv => exact hv
  | j + 3, hv => exact absurd (List.getElem?_eq_some_iff.1 hv).1 (by simp [Mk.cells])
set_option maxHeartbeats 8000000 in
theorem chains_law (count : Int) (A : Option Addr) (L : List LP) (n c : Nat) (w : World) (hr : Lm w w.heap.size A L) (hf : ∀ x ∈ L, x.1.fits) (hn : n = L.length) (hc : n ≤ c) (hb : n ≤ 9223372036854775807) (hfd : Fd w) (hmd : Md w) :
    Calls Tryz.prog 3 #[.int .i64 count, .slice A n c] w (Yes w) := by
  have HA := hid (awake18_any w hfd hmd)
  have HGR := hid (fun (W : World) (hW : Below w.heap.size w W) => great_any A L n c w.heap.size W (hr.below hW (Nat.le_refl _)) hn hc hb)
  have HCH := hid (fun (hn12 : n ≤ 12) (W : World) (hW : Below w.heap.size w W) => choose_any count A L n c w.heap.size W (hr.below hW (Nat.le_refl _)) hf hn hc hW.size (by omega) (hfd.below hW hfd.1) (hmd.below hW hmd.1))
  have HLO := hid (fun (hn12 : n ≤ 12) (W : World) (hW : Below w.heap.size w W) => rlogs_any count A L n c w.heap.size W (hr.below hW (Nat.le_refl _)) hf hn hc hW.size (by omega))
  have HLF := hid (logsQ_fits (count := count) hf)
  have HLL := hid (logsQ_len count L)
  have HMK := hid (fun (e : En) (he : e.fits) (W : World) (hW : Below w.heap.size w W) => emark_any e he W (hfd.below hW hfd.1))
  have HFO := hid (fun (m : Mk) (e : En) (W : World) => efol_any m e W)
  have hcf := choose_facts count (L.map Prod.fst)
  rw [← logsQ_eq] at hcf
  have HZS := hid mssize
  have HZC := hid chsize
  have HZK := hid msize
  have HZE := hid esize
  have HZI := hid isize
  clear hr hf hn hfd hmd
  by_cases h12 : n ≤ 12
  case neg =>
    clear HCH HLO hcf
    go_enter Tryz.func3, Tryz.ntmps3
    go_wp2_with (first
          | (go_at_call 6; refine (HA.out).mono ?_; rintro x w1 ⟨rfl, hb⟩; have HB1 := hid hb; clear hb)
          | (go_at_call 7; refine (HGR.out _ HB1.out).mono ?_; rintro x w2 ⟨b, rfl, hb12, rfl⟩))
    · go_ret
      exact ⟨rfl, HB1.out⟩
    · exact absurd (hb12 (by assumption)) h12
  have HCX := hid (HCH.out h12)
  have HLX := hid (HLO.out h12)
  clear HCH HLO
  obtain ⟨X, hX⟩ : ∃ X, chooseC count (L.map Prod.fst) = X := ⟨_, rfl⟩
  rw [hX] at hcf HCX
  clear hX
  generalize logsQ count L = M at *
  rcases hcf with ⟨-, rfl⟩ | ⟨hrd, hl8, hch, hcm⟩
  · have HEQ : Hid (decide (mk0 = mk0) = true) := hid (decide_eq_true rfl)
    clear HLX HFO HMK HLF HLL
    go_enter Tryz.func3, Tryz.ntmps3
    go_wp2_with (first
          | (go_at_call 6; refine (HA.out).mono ?_; rintro x w1 ⟨rfl, hb⟩; have HB1 := hid hb; clear hb)
          | (go_at_call 7; refine (HGR.out _ HB1.out).mono ?_; rintro x w2 ⟨b, rfl, hb12, rfl⟩)
          | (go_at_call 8; refine (HCX.out _ HB1.out).mono ?_; rintro x w3 ⟨A2, c2, rfl, hc2, hb3, -⟩; have HB3 := hid (HB1.out.trans (hb3.mono HB1.out.size)); clear hb3)
          | ((with_reducible show wpList _ _ _ ({ dst := none, op := .store _ (.tmp 5) (.tmp 18), type := _, pos := _, after := _, guard := _ } :: _) _ _); refine wpl_store_st rfl (.tmp 5) (.tmp 18) rfl HZC.out (w3.heap.size) (#[.bool false, .int .i64 0, .int .i64 0, .int .u64 0, .int .i64 0, .slice none 0 0]) (chC ch0 A2 c2) rfl rfl (Row.new _ _ _) ?_ (hid (by first | rfl | simp)) (hid (by first | rfl | simp)) (hid (chC_one _ _ _)); intro w4 hr4 hg4; have R4 := hid hr4; have HB4 := hid ((HB3.out.alloc HB3.out.size (.cells #[.bool false, .int .i64 0, .int .i64 0, .int .u64 0, .int .i64 0, .slice none 0 0] 30)).trans (below_grown hg4 HB3.out.size (by simp; have := HB3.out.size; omega))); have x0 : w4.cell? ⟨w3.heap.size, 0, none⟩ = some (.bool false) := hr4.cell 0; have x4 : w4.cell? ⟨w3.heap.size, 4, none⟩ = some (.int .i64 0) := hr4.cell 4; have x5 : w4.cell? ⟨w3.heap.size, 5, none⟩ = some (.slice A2 0 c2) := hr4.cell 5; clear hr4 hg4)
          | ((with_reducible show wpList _ _ _ ({ dst := some 33, op := _, type := _, pos := _, after := _, guard := _ } :: _) _ _); refine wpl_load_midw rfl 27 (.tmp 32) rfl w3.heap.size (1) rfl (mk0.cells.toList) _ (ch_check ch0 A2 c2 R4.out) Tryz.underlying27 rfl (by exact HZK.out) ?_)
          | ((with_reducible show wpList _ _ _ ({ dst := some 35, op := _, type := _, pos := _, after := _, guard := _ } :: _) _ _); refine wpl_eqm rfl mk0 mk0 true (.tmp 33) (.tmp 34) _ rfl rfl rfl HEQ ?_))
    · go_ret
      exact ⟨rfl, HB1.out⟩
    · go_ret
      exact ⟨rfl, HB4.out⟩
  have HCHQ := hid (chain_Q HLF.out X.check X.es hch)
  obtain ⟨r, m0, cm, es⟩ := X
  simp only at hrd hl8 hcm HCHQ
  subst hrd
  obtain ⟨u, hu⟩ : ∃ u, u = es.length := ⟨_, rfl⟩
  have HU := hid hu
  have hu8 : u ≤ 8 := by omega
  have hu8' : (u : Int) ≤ 8 := by omega
  obtain ⟨mm, hmm⟩ : ∃ m, m = M.length := ⟨_, rfl⟩
  have HMM := hid hmm
  have hmm5 : (mm : Int) ≤ 5 := by have := HLL.out; omega
  clear hu hmm hch hl8
  have HCX2 : Hid (∀ W, Below w.heap.size w W → Calls Tryz.prog 8 #[.int .i64 count, .slice A n c] W fun e w' => ∃ A2 c2, e = .returned (.agg (chC ⟨true, m0, cm, es⟩ A2 c2)) ∧ u ≤ c2 ∧ Below W.heap.size W w' ∧ Rd w' w'.heap.size A2 (rws enC es)) := hid fun W hW => (HCX.out W hW).mono fun e w' ⟨A2, c2, h1, h2, h3, h4⟩ => by
    obtain ⟨A3, c3, e3, -, h5⟩ := own_rdM h4
    cases e3
    exact ⟨A2, c2, h1, by rw [HU.out]; exact h2, h3, h5⟩
  have HLX2 : Hid (∀ W, Below w.heap.size w W → Calls Tryz.prog 9 #[.int .i64 count, .slice A n c] W fun e w' => ∃ A c, e = .returned (.slice A mm c) ∧ mm ≤ c ∧ Below W.heap.size W w' ∧ Lm w' w'.heap.size A M) := hid fun W hW => by
    have h := HLX.out W hW
    rw [HMM.out]
    exact h
  clear HCX HLX
  go_enter Tryz.func3, Tryz.ntmps3
  go_wp2_with (first
      | (go_at_call 6; refine (HA.out).mono ?_; rintro x w1 ⟨rfl, hb⟩; have HB1 := hid hb; clear hb)
      | (go_at_call 7; refine (HGR.out _ HB1.out).mono ?_; rintro x w2 ⟨b, rfl, hb12, rfl⟩)
      | (go_at_call 8; refine (HCX2.out _ HB1.out).mono ?_; rintro x w3 ⟨A2, c2, rfl, hc2, hb3, hrd3⟩; have HB3 := hid (HB1.out.trans (hb3.mono HB1.out.size)); have HRD3 := hid hrd3; clear hb3 hrd3)
      | ((with_reducible show wpList _ _ _ ({ dst := none, op := .store _ (.tmp 5) (.tmp 18), type := _, pos := _, after := _, guard := _ } :: _) _ _); refine wpl_store_st rfl (.tmp 5) (.tmp 18) rfl HZC.out (w3.heap.size) (#[.bool false, .int .i64 0, .int .i64 0, .int .u64 0, .int .i64 0, .slice none 0 0]) (chC ⟨true, m0, cm, es⟩ A2 c2) rfl rfl (Row.new _ _ _) ?_ (hid (by first | rfl | simp)) (hid (by first | rfl | simp)) (hid (chC_one _ _ _)); intro w4 hr4 hg4; have R4 := hid hr4; have hb4 : Below w3.heap.size w3 w4 := ((Below.refl _ _).alloc (Nat.le_refl _) (.cells #[.bool false, .int .i64 0, .int .i64 0, .int .u64 0, .int .i64 0, .slice none 0 0] 30)).trans (below_grown hg4 (Nat.le_refl _) (by simp)); have HB4 := hid (HB3.out.trans (hb4.mono HB3.out.size)); have HRD4 := hid (HRD3.out.below hb4 (Nat.le_refl _)); have x0 : w4.cell? ⟨w3.heap.size, 0, none⟩ = some (.bool true) := hr4.cell 0; clear hr4 hg4 hb4)
      | (go_at_call 9; refine (HLX2.out _ HB4.out).mono ?_; rintro x w5 ⟨A3, c3, rfl, hc3, hb5, hlm⟩; have HB5 := hid (HB4.out.trans (hb5.mono HB4.out.size)); have R5 := hid (R4.out.below hb5 R4.out.lt); have HRD5 := hid (HRD4.out.below hb5 (Nat.le_of_lt R4.out.lt)); have HLM := hid hlm; have HS5 := hid hb5.size; clear hb5 hlm)
      | ((with_reducible show wpList _ _ _ ({ dst := some 41, op := _, type := _, pos := _, after := _, guard := _ } :: _) _ _); refine wpList_load_mid rfl 27 (.tmp 40) rfl w3.heap.size (1) rfl (m0.cells.toList) _ (ch_check ⟨true, m0, cm, es⟩ A2 c2 R5.out) Tryz.underlying27 rfl (by exact HZK.out) ?_)
      | ((with_reducible show wpList _ _ _ ({ dst := none, op := .store _ (.tmp 7) (.tmp 41), type := _, pos := _, after := _, guard := _ } :: _) _ _); refine wpl_store_st rfl (.tmp 7) (.tmp 41) rfl HZK.out (w5.heap.size) (#[.int .i64 0, .int .i64 0, .int .u64 0]) (m0.cells) rfl rfl (Row.new _ _ _) ?_ (hid (by first | rfl | simp)) (hid (by first | rfl | simp)) (hid (mcells_one _)); intro w6 hr6 hg6; have RK := hid hr6; have hb6 : Below w5.heap.size w5 w6 := ((Below.refl _ _).alloc (Nat.le_refl _) (.cells #[.int .i64 0, .int .i64 0, .int .u64 0] 27)).trans (below_grown hg6 (Nat.le_refl _) (by simp)); have HB6 := hid (HB5.out.trans (hb6.mono HB5.out.size)); have HW6 := hid hb6; have x5 : w6.cell? ⟨w3.heap.size, 5, none⟩ = some (.slice A2 es.length c2) := (R5.out.below hb6 R5.out.lt).cell 5; rw [← HU.out] at x5; clear hr6 hg6 hb6))
  · go_ret
    exact ⟨rfl, HB1.out⟩
  have hbf : b = false := by assumption
  subst hbf
  have HV5 : Hid (w3.heap.size < w5.heap.size) := hid R5.out.lt
  clear R4 HRD3 HRD4 HCX2 HLX2 HA HGR hb12
  go_loopw [8] (fun i wr => ∃ k : Nat, k ≤ u ∧ i = .int .i64 (k : Int) ∧ ∃ m : Mk, Hid (ChQ M m (es.drop k)) ∧ Hid (Row wr w5.heap.size 27 m.cells.toList) ∧ Hid (Below w5.heap.size w5 wr)) (fun i _ => u - (intOf i).toNat)
  case atStart => exact ⟨0, by omega, rfl, m0, HCHQ, RK, HW6⟩
  case round =>
    clear HCHQ RK HW6 HB6 x0 x5
    obtain ⟨k, hk, rfl, m, HQ, RK, HW⟩ := hrel
    have HBX := hid (HB5.out.trans (HW.out.mono HB5.out.size))
    have RC := hid (R5.out.below HW.out R5.out.lt)
    have x5 : wr.cell? ⟨w3.heap.size, 5, none⟩ = some (.slice A2 u c2) := by rw [HU.out]; exact RC.out.cell 5
    by_cases hlt : k < u
    · have hkl : k < es.length := by rw [← HU.out]; exact hlt
      obtain ⟨q1, q2, q3, q4⟩ := ch_drop hkl HQ.out
      obtain ⟨gE, oE, rfl, hgE, -⟩ := rws_at (n := 9) (fun _ => rfl) HRD5.out k hkl (by omega)
      have HRG : Hid (∀ W, Below w5.heap.size w5 W → W.rangeAt gE (oE + k * 9) (Array.toList es[k].cells)) := hid fun W hW => by
        obtain ⟨g', o', e', -, h⟩ := rws_at (n := 9) (fun _ => rfl) (HRD5.out.below hW (Nat.le_of_lt HV5.out)) k hkl (by omega)
        cases e'
        exact h
      have HF := hid (fun W => HFO.out m es[k] W)
      rw [decide_eq_true q1] at HF
      have HMX := hid (HMK.out es[k] q3)
      have HANY := hid q2
      have HQ4 := hid q4
      have HOP := hid (markE_opn q3 q1.1)
      have hi1 : (k : Int) < (u : Int) := by omega
      have hi0 : (0 : Int) ≤ (k : Int) := by omega
      generalize es[k] = e at *
      generalize markE e = mk at *
      clear q1 q2 q3 q4 hkl hgE HQ HFO HMK
      go_wp2_with fail
      refine wp_region_held_drew (S := (fun W => Row W w5.heap.size 27 m.cells.toList ∧ Below w5.heap.size w5 W)) (by kernel_rfl) (⟨RK.out.drew, HW.out.drew⟩) (fun hH => ?_)
      refine tk_ (i := 0) (v := .agg (m.cells)) rfl (yieldsIf_load_mid rfl 27 (.tmp 7) rfl (w5.heap.size) 0 rfl (Array.toList (m.cells)) _ (fun W hW => Row.range hW.1) Tryz.underlying27 rfl (by exact HZK.out)) hH ?_
      simp only [Act.put, la1, la3, la4, la5, la6]
      refine tk_ (i := 1) (v := .pointer (some ⟨w3.heap.size, 5, none⟩)) rfl (Or.inl ⟨by rfl, fun w' hw' => by clear hw'; go_simp⟩) hH ?_
      simp only [Act.put, la1, la2, la3, la4, la5, la6]
      refine tk_ (i := 2) (v := .slice (some ⟨gE, oE, none⟩) u c2) rfl (Or.inl ⟨by rfl, fun w' hw' => by have h : w'.cell? ⟨w3.heap.size, 5, none⟩ = some (.slice (some ⟨gE, oE, none⟩) u c2) := (by rw [HU.out]; exact (R5.out.below hw'.2 R5.out.lt).cell 5); clear hw'; go_simp⟩) hH ?_
      simp only [Act.put, la1, la2, la3, la4, la5, la6]
      refine tk_ (i := 3) (v := .int .i64 (k : Int)) rfl (Or.inl ⟨by rfl, fun w' hw' => by clear hw'; go_simp⟩) hH ?_
      simp only [Act.put, la1, la2, la3, la4, la5, la6]
      refine tk_ (i := 4) (v := .pointer (some ⟨gE, oE + k * 9, none⟩)) rfl (Or.inl ⟨by rfl, fun w' hw' => by clear hw'; go_simp⟩) hH ?_
      simp only [Act.put, la1, la2, la3, la4, la5, la6]
      refine tk_ (i := 5) (v := .agg (e.cells)) rfl (yieldsIf_load_mid rfl 35 (.tmp 53) rfl (gE) (oE + k * 9) rfl (Array.toList (e.cells)) _ (fun W hW => HRG.out W hW.2) Tryz.underlying35 rfl (by exact HZE.out)) hH ?_
      simp only [Act.put, la1, la2, la3, la4, la5, la6]
      refine rd1 (i := 6) (by kernel_rfl) rfl (fun K hK => ?_)
      go_simp
      go_at_call 10
      refine (HF.out _).mono ?_
      rintro x w11 ⟨rfl, hb⟩
      go_wp2_with fail
      refine hK.out _ _ (⟨hH.1.below hb hH.1.lt, hH.2.trans (hb.mono hH.2.size)⟩) (fun hH => ?_)
      clear hK K
      try simp only [Act.put, la1, la2, la3, la4, la5, la6]
      refine tk_ (i := 7) (v := .bool false) rfl (Or.inl ⟨by rfl, fun w' hw' => by clear hw'; go_simp⟩) hH ?_
      simp only [Act.put, la1, la2, la3, la4, la5, la6]
      refine wpAnyH_done (by kernel_rfl) ?_ _
      try simp only [Act.put, la1, la2, la3, la4, la5, la6]
      obtain ⟨hK1, hW1⟩ := hH
      have RK1 := hid hK1
      have HW1 := hid hW1
      have RC1 := hid (R5.out.below hW1 R5.out.lt)
      have y5 := RC1.out.cell 5
      change World.cell? _ ⟨w3.heap.size, 5, none⟩ = some (.slice (some ⟨gE, oE, none⟩) es.length c2) at y5
      rw [← HU.out] at y5
      have HRG1 := hid (HRG.out _ hW1)
      clear hK1 hW1 x5 RC
      go_wp2_with (first
        | ((with_reducible show wpList _ _ _ ({ dst := some 61, op := _, type := _, pos := _, after := _, guard := _ } :: _) _ _); refine wpList_load_mid rfl 35 (.tmp 60) rfl gE (oE + k * 9) rfl (Array.toList e.cells) _ (HRG1.out) Tryz.underlying35 rfl (by exact HZE.out) ?_)
        | (go_at_call 11; refine (HMX.out _ (HB5.out.trans (HW1.out.mono HB5.out.size))).mono ?_; rintro x w12 ⟨rfl, hb⟩; have HW2 := hid (HW1.out.trans (hb.mono HW1.out.size)); have RK2 := hid (RK1.out.below hb RK1.out.lt); clear hb)
        | ((with_reducible show wpList _ _ _ ({ dst := none, op := .store _ (.tmp 7) (.tmp 62), type := _, pos := _, after := _, guard := _ } :: _) _ _); refine wpl_store_st rfl (.tmp 7) (.tmp 62) rfl HZK.out (w5.heap.size) (m.cells) (mk.cells) rfl rfl (RK2.out) ?_ (hid (by first | rfl | simp)) (hid (by first | rfl | simp)) (hid (mcells_one _)); intro w13 hr13 hg13; have RK3 := hid hr13; have HW3 := hid (HW2.out.trans (below_grown hg13 (Nat.le_refl _) HW2.out.size)); clear hr13 hg13))
      go_loopw [9, 10] (fun v i wr => ∃ j : Nat, j ≤ mm ∧ i = .int .i64 (j : Int) ∧ ∃ th : Bool, v = .bool th ∧ Hid ((M.take j).any (isE18 e) = th) ∧ Hid (Row wr w5.heap.size 27 mk.cells.toList) ∧ Hid (Below w5.heap.size w5 wr)) (fun _ i _ => mm - (intOf i).toNat)
      case atStart => exact ⟨0, by omega, rfl, false, rfl, hid rfl, RK3, HW3⟩
      case round =>
        clear RK1 HW1 RC1 y5 HRG1 RK3 HW3 RK HW HBX
        obtain ⟨j, hj, rfl, th, rfl, HT, RK, HW⟩ := hrel
        by_cases hlj : j < mm
        · have hjl : j < M.length := by rw [← HMM.out]; exact hlj
          have HLM2 := hid (HLM.out.below HW.out (Nat.le_refl _))
          obtain ⟨gM, oM, rfl, hgM, -⟩ := HLM.out.at_ j hjl
          have HRM : Hid (∀ W, Below w5.heap.size w5 W → W.rangeAt gM (oM + j * 33) (Array.toList (M[j].1.cells M[j].2))) := hid fun W hW => by
            obtain ⟨g', o', e', -, h⟩ := (HLM.out.below hW (Nat.le_refl _)).at_ j hjl
            cases e'
            exact h
          have HSY := hid (fun (W : World) (hW : Below w5.heap.size w5 W) => rsays_any M[j] mk.opn w5.heap.size W ((HLM.out.pl _ (List.getElem_mem hjl)).below hW (Nat.le_refl _)) hW.size (HLF.out.xs (List.getElem_mem hjl)) (HLF.out.chk (List.getElem_mem hjl)))
          have HSN := hid (any_snoc18 (isE18 e) M j hjl)
          rw [HT.out] at HSN
          have HIS : Hid (isE18 e M[j] = decide ((saysC M[j].1 mk.opn).kind = 1 ∧ (saysC M[j].1 mk.opn).entry = e)) := hid (by rw [HOP.out]; rfl)
          rw [HIS.out] at HSN
          have hj1 : (j : Int) < (mm : Int) := by omega
          have hj0 : (0 : Int) ≤ (j : Int) := by omega
          generalize M[j] = Y at *
          generalize saysC Y.1 mk.opn = x at *
          have CM0 : Hid (∀ W, Row W w5.heap.size 27 mk.cells.toList → W.cell? ⟨w5.heap.size, 0, none⟩ = some (.int .i64 mk.opn)) := hid fun W h => h.cell 0
          clear hgM hjl HT HIS
          go_wp2_with fail
          refine wp_region_held_drew (S := (fun W => Row W w5.heap.size 27 mk.cells.toList ∧ Below w5.heap.size w5 W)) (by kernel_rfl) (⟨RK.out.drew, HW.out.drew⟩) (fun hH => ?_)
          refine tk_ (i := 0) (v := .slice (some ⟨gM, oM, none⟩) mm c3) rfl (Or.inl ⟨by rfl, fun w' hw' => by clear hw'; go_simp⟩) hH ?_
          simp only [Act.put, la1, la3, la4, la5, la6]
          refine tk_ (i := 1) (v := .int .i64 (j : Int)) rfl (Or.inl ⟨by rfl, fun w' hw' => by clear hw'; go_simp⟩) hH ?_
          simp only [Act.put, la1, la2, la3, la4, la5, la6]
          refine tk_ (i := 2) (v := .pointer (some ⟨gM, oM + j * 33, none⟩)) rfl (Or.inl ⟨by rfl, fun w' hw' => by clear hw'; go_simp⟩) hH ?_
          simp only [Act.put, la1, la2, la3, la4, la5, la6]
          refine tk_ (i := 3) (v := .agg (Y.1.cells Y.2)) rfl (yieldsIf_load_mid rfl 45 (.tmp 71) rfl (gM) (oM + j * 33) rfl (Array.toList (Y.1.cells Y.2)) _ (fun W hW => HRM.out W hW.2) Tryz.underlying45 rfl (by exact HZS.out)) hH ?_
          simp only [Act.put, la1, la2, la3, la4, la5, la6]
          refine tk_ (i := 4) (v := .pointer (some ⟨w5.heap.size, 0, none⟩)) rfl (Or.inl ⟨by rfl, fun w' hw' => by clear hw'; go_simp⟩) hH ?_
          simp only [Act.put, la1, la2, la3, la4, la5, la6]
          refine tk_ (i := 5) (v := .int .i64 mk.opn) rfl (Or.inl ⟨by rfl, fun w' hw' => by have h := CM0.out w' hw'.1; clear hw'; go_simp⟩) hH ?_
          simp only [Act.put, la1, la2, la3, la4, la5, la6]
          refine wpAnyH_ready (rs := [6, 7]) (by kernel_rfl) (by simp) ?_
          refine AllReadyH.cons rfl (fun K hK => ?_) (AllReadyH.cons rfl (fun K hK => ?_) AllReadyH.nil)
          · go_simp
            go_at_call 12
            refine (HSY.out _ hH.2).mono ?_
            rintro y w14 ⟨rfl, hb⟩
            go_wp2_with fail
            refine hK.out _ _ (⟨hH.1.below hb hH.1.lt, hH.2.trans (hb.mono hH.2.size)⟩) (fun hH => ?_)
            clear hb
            clear hK K
            try simp only [Act.put, la1, la2, la3, la4, la5, la6]
            refine rd1 (i := 7) (by kernel_rfl) rfl (fun K hK => ?_)
            go_simp
            have HIX : Hid (w5.heap.size < w14.heap.size) := hid hH.1.lt
            have RIT := Row.new w14 40 #[.int .i64 0, .int .i64 0, .int .i64 0, .int .i64 0, .int .u64 0, .int .u64 0, .int .i64 0, .int .i64 0, .int .i64 0, .int .u64 0, .int .i64 0, .int .i64 0, .int .i64 0, .int .i64 0, .string ⟨#[]⟩]
            refine hK.out _ _ ⟨hH.1.alloc _, hH.2.alloc hH.2.size _⟩ (fun hH => ?_)
            clear hK K
            try simp only [Act.put, la1, la2, la3, la4, la5, la6]
            refine rd1 (i := 8) (by kernel_rfl) rfl (fun K hK => ?_)
            rw [if_pos (by kernel_rfl)]
            refine wp_store_st (.tmp 11) (.tmp 75) rfl HZI.out (w14.heap.size) #[.int .i64 0, .int .i64 0, .int .i64 0, .int .i64 0, .int .u64 0, .int .u64 0, .int .i64 0, .int .i64 0, .int .i64 0, .int .u64 0, .int .i64 0, .int .i64 0, .int .i64 0, .int .i64 0, .string ⟨#[]⟩] x.cells rfl rfl RIT rfl rfl (itc_one _) (fun w15 hr15 hg15 => ?_)
            refine hK.out _ _ ⟨hH.1.grown hg15 (by intro y; have : w5.heap.size = w14.heap.size := Option.some.inj y; have := HIX.out; omega), hH.2.trans (below_grown hg15 (Nat.le_of_lt HIX.out) hH.2.size)⟩ (fun hH => ?_)
            clear hK K
            try simp only [Act.put, la1, la2, la3]
            refine wpAnyH_done (by kernel_rfl) ?_ _
            try simp only [Act.put, la1, la2, la3, la4, la5, la6]
            obtain ⟨gI, hgI⟩ : ∃ g, w14.heap.size = g := ⟨_, rfl⟩
            rw [hgI] at hr15 ⊢
            have HRI := hid hr15
            have HR20 := hid hH.1
            have HW20 := hid hH.2
            clear hH hr15 hg15 hgI HIX RIT
            cases th
            case true =>
              have HX : Hid ((M.take (j + 1)).any (isE18 e) = true) := hid (by rw [HSN.out]; rfl)
              go_wp2_with fail
              refine wp_region_held_drew (S := (fun W => Row W gI 40 x.cells.toList ∧ Below w5.heap.size w5 W)) (by kernel_rfl) (⟨HRI.out.drew, HW20.out.drew⟩) (fun hH => ?_)
              refine tk_ (i := 0) (v := .bool true) rfl (Or.inl ⟨by rfl, fun w' hw' => by clear hw'; go_simp⟩) hH ?_
              simp only [Act.put, la1, la3, la4, la5, la6]
              refine tk_ (i := 1) (v := .bool true) rfl (Or.inl ⟨by rfl, fun w' hw' => by clear hw'; go_simp⟩) hH ?_
              simp only [Act.put, la1, la2, la3, la4, la5, la6]
              refine tk_ (i := 2) (v := undef) rfl (Or.inr ⟨by kernel_rfl, rfl⟩) hH ?_
              simp only [Act.put, la1, la2, la3, la4, la5, la6]
              refine tk_ (i := 3) (v := undef) rfl (Or.inr ⟨by kernel_rfl, rfl⟩) hH ?_
              simp only [Act.put, la1, la2, la3, la4, la5, la6]
              refine tk_ (i := 4) (v := undef) rfl (Or.inr ⟨by kernel_rfl, rfl⟩) hH ?_
              simp only [Act.put, la1, la2, la3, la4, la5, la6]
              refine tk_ (i := 5) (v := undef) rfl (Or.inr ⟨by kernel_rfl, rfl⟩) hH ?_
              simp only [Act.put, la1, la2, la3, la4, la5, la6]
              refine tk_ (i := 6) (v := undef) rfl (Or.inr ⟨by kernel_rfl, rfl⟩) hH ?_
              simp only [Act.put, la1, la2, la3, la4, la5, la6]
              refine tk_ (i := 7) (v := undef) rfl (Or.inr ⟨by kernel_rfl, rfl⟩) hH ?_
              simp only [Act.put, la1, la2, la3, la4, la5, la6]
              refine tk_ (i := 8) (v := undef) rfl (Or.inr ⟨by kernel_rfl, rfl⟩) hH ?_
              simp only [Act.put, la1, la2, la3, la4, la5, la6]
              refine tk_ (i := 9) (v := undef) rfl (Or.inr ⟨by kernel_rfl, rfl⟩) hH ?_
              simp only [Act.put, la1, la2, la3, la4, la5, la6]
              refine tk_ (i := 10) (v := undef) rfl (Or.inr ⟨by kernel_rfl, rfl⟩) hH ?_
              simp only [Act.put, la1, la2, la3, la4, la5, la6]
              refine tk_ (i := 11) (v := undef) rfl (Or.inr ⟨by kernel_rfl, rfl⟩) hH ?_
              simp only [Act.put, la1, la2, la3, la4, la5, la6]
              refine tk_ (i := 12) (v := undef) rfl (Or.inr ⟨by kernel_rfl, rfl⟩) hH ?_
              simp only [Act.put, la1, la2, la3, la4, la5, la6]
              refine tk_ (i := 13) (v := undef) rfl (Or.inr ⟨by kernel_rfl, rfl⟩) hH ?_
              simp only [Act.put, la1, la2, la3, la4, la5, la6]
              refine tk_ (i := 14) (v := undef) rfl (Or.inr ⟨by kernel_rfl, rfl⟩) hH ?_
              simp only [Act.put, la1, la2, la3, la4, la5, la6]
              refine tk_ (i := 15) (v := .bool true) rfl (Or.inl ⟨by kernel_rfl, fun w' _ => by kernel_rfl⟩) hH ?_
              simp only [Act.put, la1, la2, la3, la4, la5, la6]
              refine rd1 (i := 16) (by kernel_rfl) rfl (fun K hK => ?_)
              go_simp
              refine hK.out _ _ (hH) (fun hH => ?_)
              clear hK K
              try simp only [Act.put, la1, la2, la3, la4, la5, la6]
              refine wpAnyH_done (by kernel_rfl) ?_ _
              try simp only [Act.put, la1, la2, la3, la4, la5, la6]
              have HW21 := hid hH.2
              clear hH
              go_wp2_with fail
              go_roundw
              case rel => exact ⟨j + 1, by omega, by go_num, true, rfl, HX, hid (HR20.out.drew), HW21⟩
              case measure => simp [intOf]; omega
            case false =>
              cases hk1 : (x.kind == 1)
              case false =>
                have HX : Hid ((M.take (j + 1)).any (isE18 e) = false) := hid (by rw [HSN.out, decide_eq_false (fun h => by rw [h.1] at hk1; cases hk1)]; rfl)
                have HK1 := hid hk1
                clear hk1
                go_wp2_with fail
                refine wp_region_held_drew (S := (fun W => Row W gI 40 x.cells.toList ∧ Below w5.heap.size w5 W)) (by kernel_rfl) (⟨HRI.out.drew, HW20.out.drew⟩) (fun hH => ?_)
                refine tk_ (i := 0) (v := .bool false) rfl (Or.inl ⟨by rfl, fun w' hw' => by clear hw'; go_simp⟩) hH ?_
                simp only [Act.put, la1, la3, la4, la5, la6]
                refine tk_ (i := 1) (v := .bool false) rfl (Or.inl ⟨by rfl, fun w' hw' => by clear hw'; go_simp⟩) hH ?_
                simp only [Act.put, la1, la2, la3, la4, la5, la6]
                refine tk_ (i := 2) (v := .pointer (some ⟨gI, 0, none⟩)) rfl (Or.inl ⟨by kernel_rfl, fun w' _ => by kernel_rfl⟩) hH ?_
                simp only [Act.put, la1, la2, la3, la4, la5, la6]
                refine tk_ (i := 3) (v := .int .i64 x.kind) rfl (Or.inl ⟨by kernel_rfl, fun w' hw' => by have h : w'.cell? ⟨gI, 0, none⟩ = some (.int .i64 x.kind) := hw'.1.cell 0; clear hw'; go_simp⟩) hH ?_
                simp only [Act.put, la1, la2, la3, la4, la5, la6]
                refine tk_ (i := 4) (v := .bool false) rfl (Or.inl ⟨by kernel_rfl, fun w' hw' => by clear hw'; have h := HK1.out; go_simp⟩) hH ?_
                simp only [Act.put, la1, la2, la3, la4, la5, la6]
                refine tk_ (i := 5) (v := .bool false) rfl (Or.inl ⟨by kernel_rfl, fun w' _ => by kernel_rfl⟩) hH ?_
                simp only [Act.put, la1, la2, la3, la4, la5, la6]
                refine tk_ (i := 6) (v := undef) rfl (Or.inr ⟨by kernel_rfl, rfl⟩) hH ?_
                simp only [Act.put, la1, la2, la3, la4, la5, la6]
                refine tk_ (i := 7) (v := undef) rfl (Or.inr ⟨by kernel_rfl, rfl⟩) hH ?_
                simp only [Act.put, la1, la2, la3, la4, la5, la6]
                refine tk_ (i := 8) (v := undef) rfl (Or.inr ⟨by kernel_rfl, rfl⟩) hH ?_
                simp only [Act.put, la1, la2, la3, la4, la5, la6]
                refine tk_ (i := 9) (v := undef) rfl (Or.inr ⟨by kernel_rfl, rfl⟩) hH ?_
                simp only [Act.put, la1, la2, la3, la4, la5, la6]
                refine tk_ (i := 10) (v := undef) rfl (Or.inr ⟨by kernel_rfl, rfl⟩) hH ?_
                simp only [Act.put, la1, la2, la3, la4, la5, la6]
                refine tk_ (i := 11) (v := undef) rfl (Or.inr ⟨by kernel_rfl, rfl⟩) hH ?_
                simp only [Act.put, la1, la2, la3, la4, la5, la6]
                refine tk_ (i := 12) (v := undef) rfl (Or.inr ⟨by kernel_rfl, rfl⟩) hH ?_
                simp only [Act.put, la1, la2, la3, la4, la5, la6]
                refine tk_ (i := 13) (v := undef) rfl (Or.inr ⟨by kernel_rfl, rfl⟩) hH ?_
                simp only [Act.put, la1, la2, la3, la4, la5, la6]
                refine tk_ (i := 14) (v := .bool false) rfl (Or.inl ⟨by kernel_rfl, fun w' _ => by kernel_rfl⟩) hH ?_
                simp only [Act.put, la1, la2, la3, la4, la5, la6]
                refine tk_ (i := 15) (v := .bool false) rfl (Or.inl ⟨by kernel_rfl, fun w' _ => by kernel_rfl⟩) hH ?_
                simp only [Act.put, la1, la2, la3, la4, la5, la6]
                refine rd1 (i := 16) (by kernel_rfl) rfl (fun K hK => ?_)
                go_simp
                refine hK.out _ _ (hH) (fun hH => ?_)
                clear hK K
                try simp only [Act.put, la1, la2, la3, la4, la5, la6]
                refine wpAnyH_done (by kernel_rfl) ?_ _
                try simp only [Act.put, la1, la2, la3, la4, la5, la6]
                have HW21 := hid hH.2
                clear hH
                go_wp2_with fail
                go_roundw
                case rel => exact ⟨j + 1, by omega, by go_num, false, rfl, HX, hid (HR20.out.drew), HW21⟩
                case measure => simp [intOf]; omega
              case true =>
                have HK1 := hid hk1
                by_cases he : x.entry = e
                · have HX : Hid ((M.take (j + 1)).any (isE18 e) = true) := hid (by rw [HSN.out, decide_eq_true ⟨by simpa using hk1, he⟩]; rfl)
                  have HEE : Hid (x.entry = e) := hid he
                  clear hk1 he
                  go_wp2_with fail
                  refine wp_region_held_drew (S := (fun W => Row W gI 40 x.cells.toList ∧ Below w5.heap.size w5 W)) (by kernel_rfl) (⟨HRI.out.drew, HW20.out.drew⟩) (fun hH => ?_)
                  refine tk_ (i := 0) (v := .bool false) rfl (Or.inl ⟨by rfl, fun w' hw' => by clear hw'; go_simp⟩) hH ?_
                  simp only [Act.put, la1, la3, la4, la5, la6]
                  refine tk_ (i := 1) (v := .bool false) rfl (Or.inl ⟨by rfl, fun w' hw' => by clear hw'; go_simp⟩) hH ?_
                  simp only [Act.put, la1, la2, la3, la4, la5, la6]
                  refine tk_ (i := 2) (v := .pointer (some ⟨gI, 0, none⟩)) rfl (Or.inl ⟨by kernel_rfl, fun w' _ => by kernel_rfl⟩) hH ?_
                  simp only [Act.put, la1, la2, la3, la4, la5, la6]
                  refine tk_ (i := 3) (v := .int .i64 x.kind) rfl (Or.inl ⟨by kernel_rfl, fun w' hw' => by have h : w'.cell? ⟨gI, 0, none⟩ = some (.int .i64 x.kind) := hw'.1.cell 0; clear hw'; go_simp⟩) hH ?_
                  simp only [Act.put, la1, la2, la3, la4, la5, la6]
                  refine tk_ (i := 4) (v := .bool true) rfl (Or.inl ⟨by kernel_rfl, fun w' hw' => by clear hw'; have h := HK1.out; go_simp⟩) hH ?_
                  simp only [Act.put, la1, la2, la3, la4, la5, la6]
                  refine tk_ (i := 5) (v := .bool true) rfl (Or.inl ⟨by kernel_rfl, fun w' _ => by kernel_rfl⟩) hH ?_
                  simp only [Act.put, la1, la2, la3, la4, la5, la6]
                  refine tk_ (i := 6) (v := .pointer (some ⟨gI, 6, none⟩)) rfl (Or.inl ⟨by kernel_rfl, fun w' _ => by kernel_rfl⟩) hH ?_
                  simp only [Act.put, la1, la2, la3, la4, la5, la6]
                  refine tk_ (i := 7) (v := .agg (x.entry.cells)) rfl (yieldsIf_load_mid (by kernel_rfl) 35 (.tmp 82) rfl gI 6 rfl (Array.toList (x.entry.cells)) _ (fun W hW => it_entry hW.1) Tryz.underlying35 rfl (by exact HZE.out)) hH ?_
                  simp only [Act.put, la1, la2, la3, la4, la5, la6]
                  refine tk_ (i := 8) (v := .pointer (some ⟨w3.heap.size, 5, none⟩)) rfl (Or.inl ⟨by kernel_rfl, fun w' _ => by kernel_rfl⟩) hH ?_
                  simp only [Act.put, la1, la2, la3, la4, la5, la6]
                  refine tk_ (i := 9) (v := .slice (some ⟨gE, oE, none⟩) u c2) rfl (Or.inl ⟨by kernel_rfl, fun w' hw' => by have h : w'.cell? ⟨w3.heap.size, 5, none⟩ = some (.slice (some ⟨gE, oE, none⟩) u c2) := (by rw [HU.out]; exact (R5.out.below hw'.2 R5.out.lt).cell 5); clear hw'; go_simp⟩) hH ?_
                  simp only [Act.put, la1, la2, la3, la4, la5, la6]
                  refine tk_ (i := 10) (v := .int .i64 (k : Int)) rfl (Or.inl ⟨by kernel_rfl, fun w' _ => by kernel_rfl⟩) hH ?_
                  simp only [Act.put, la1, la2, la3, la4, la5, la6]
                  refine tk_ (i := 11) (v := .pointer (some ⟨gE, oE + k * 9, none⟩)) rfl (Or.inl ⟨by kernel_rfl, fun w' hw' => by clear hw'; go_simp⟩) hH ?_
                  simp only [Act.put, la1, la2, la3, la4, la5, la6]
                  refine tk_ (i := 12) (v := .agg (e.cells)) rfl (yieldsIf_load_mid (by kernel_rfl) 35 (.tmp 87) rfl gE (oE + k * 9) rfl (Array.toList (e.cells)) _ (fun W hW => HRG.out W hW.2) Tryz.underlying35 rfl (by exact HZE.out)) hH ?_
                  simp only [Act.put, la1, la2, la3, la4, la5, la6]
                  refine tk_ (i := 13) (v := .bool true) rfl (yields_eqe18 (by kernel_rfl) x.entry e true (hid ⟨fun _ => HEE.out, fun _ => rfl⟩) (.tmp 83) (.tmp 88) _ rfl (by kernel_rfl) (by kernel_rfl)) hH ?_
                  simp only [Act.put, la1, la2, la3, la4, la5, la6]
                  refine tk_ (i := 14) (v := .bool true) rfl (Or.inl ⟨by kernel_rfl, fun w' _ => by kernel_rfl⟩) hH ?_
                  simp only [Act.put, la1, la2, la3, la4, la5, la6]
                  refine tk_ (i := 15) (v := .bool true) rfl (Or.inl ⟨by kernel_rfl, fun w' _ => by kernel_rfl⟩) hH ?_
                  simp only [Act.put, la1, la2, la3, la4, la5, la6]
                  refine rd1 (i := 16) (by kernel_rfl) rfl (fun K hK => ?_)
                  go_simp
                  refine hK.out _ _ (hH) (fun hH => ?_)
                  clear hK K
                  try simp only [Act.put, la1, la2, la3, la4, la5, la6]
                  refine wpAnyH_done (by kernel_rfl) ?_ _
                  try simp only [Act.put, la1, la2, la3, la4, la5, la6]
                  have HW21 := hid hH.2
                  clear hH
                  go_wp2_with fail
                  go_roundw
                  case rel => exact ⟨j + 1, by omega, by go_num, true, rfl, HX, hid (HR20.out.drew), HW21⟩
                  case measure => simp [intOf]; omega
                · have HX : Hid ((M.take (j + 1)).any (isE18 e) = false) := hid (by rw [HSN.out, decide_eq_false (fun h => he h.2)]; rfl)
                  have HEE : Hid (¬ x.entry = e) := hid he
                  clear hk1 he
                  go_wp2_with fail
                  refine wp_region_held_drew (S := (fun W => Row W gI 40 x.cells.toList ∧ Below w5.heap.size w5 W)) (by kernel_rfl) (⟨HRI.out.drew, HW20.out.drew⟩) (fun hH => ?_)
                  refine tk_ (i := 0) (v := .bool false) rfl (Or.inl ⟨by rfl, fun w' hw' => by clear hw'; go_simp⟩) hH ?_
                  simp only [Act.put, la1, la3, la4, la5, la6]
                  refine tk_ (i := 1) (v := .bool false) rfl (Or.inl ⟨by rfl, fun w' hw' => by clear hw'; go_simp⟩) hH ?_
                  simp only [Act.put, la1, la2, la3, la4, la5, la6]
                  refine tk_ (i := 2) (v := .pointer (some ⟨gI, 0, none⟩)) rfl (Or.inl ⟨by kernel_rfl, fun w' _ => by kernel_rfl⟩) hH ?_
                  simp only [Act.put, la1, la2, la3, la4, la5, la6]
                  refine tk_ (i := 3) (v := .int .i64 x.kind) rfl (Or.inl ⟨by kernel_rfl, fun w' hw' => by have h : w'.cell? ⟨gI, 0, none⟩ = some (.int .i64 x.kind) := hw'.1.cell 0; clear hw'; go_simp⟩) hH ?_
                  simp only [Act.put, la1, la2, la3, la4, la5, la6]
                  refine tk_ (i := 4) (v := .bool true) rfl (Or.inl ⟨by kernel_rfl, fun w' hw' => by clear hw'; have h := HK1.out; go_simp⟩) hH ?_
                  simp only [Act.put, la1, la2, la3, la4, la5, la6]
                  refine tk_ (i := 5) (v := .bool true) rfl (Or.inl ⟨by kernel_rfl, fun w' _ => by kernel_rfl⟩) hH ?_
                  simp only [Act.put, la1, la2, la3, la4, la5, la6]
                  refine tk_ (i := 6) (v := .pointer (some ⟨gI, 6, none⟩)) rfl (Or.inl ⟨by kernel_rfl, fun w' _ => by kernel_rfl⟩) hH ?_
                  simp only [Act.put, la1, la2, la3, la4, la5, la6]
                  refine tk_ (i := 7) (v := .agg (x.entry.cells)) rfl (yieldsIf_load_mid (by kernel_rfl) 35 (.tmp 82) rfl gI 6 rfl (Array.toList (x.entry.cells)) _ (fun W hW => it_entry hW.1) Tryz.underlying35 rfl (by exact HZE.out)) hH ?_
                  simp only [Act.put, la1, la2, la3, la4, la5, la6]
                  refine tk_ (i := 8) (v := .pointer (some ⟨w3.heap.size, 5, none⟩)) rfl (Or.inl ⟨by kernel_rfl, fun w' _ => by kernel_rfl⟩) hH ?_
                  simp only [Act.put, la1, la2, la3, la4, la5, la6]
                  refine tk_ (i := 9) (v := .slice (some ⟨gE, oE, none⟩) u c2) rfl (Or.inl ⟨by kernel_rfl, fun w' hw' => by have h : w'.cell? ⟨w3.heap.size, 5, none⟩ = some (.slice (some ⟨gE, oE, none⟩) u c2) := (by rw [HU.out]; exact (R5.out.below hw'.2 R5.out.lt).cell 5); clear hw'; go_simp⟩) hH ?_
                  simp only [Act.put, la1, la2, la3, la4, la5, la6]
                  refine tk_ (i := 10) (v := .int .i64 (k : Int)) rfl (Or.inl ⟨by kernel_rfl, fun w' _ => by kernel_rfl⟩) hH ?_
                  simp only [Act.put, la1, la2, la3, la4, la5, la6]
                  refine tk_ (i := 11) (v := .pointer (some ⟨gE, oE + k * 9, none⟩)) rfl (Or.inl ⟨by kernel_rfl, fun w' hw' => by clear hw'; go_simp⟩) hH ?_
                  simp only [Act.put, la1, la2, la3, la4, la5, la6]
                  refine tk_ (i := 12) (v := .agg (e.cells)) rfl (yieldsIf_load_mid (by kernel_rfl) 35 (.tmp 87) rfl gE (oE + k * 9) rfl (Array.toList (e.cells)) _ (fun W hW => HRG.out W hW.2) Tryz.underlying35 rfl (by exact HZE.out)) hH ?_
                  simp only [Act.put, la1, la2, la3, la4, la5, la6]
                  refine tk_ (i := 13) (v := .bool false) rfl (yields_eqe18 (by kernel_rfl) x.entry e false (hid ⟨(fun h => by cases h), fun h => absurd h HEE.out⟩) (.tmp 83) (.tmp 88) _ rfl (by kernel_rfl) (by kernel_rfl)) hH ?_
                  simp only [Act.put, la1, la2, la3, la4, la5, la6]
                  refine tk_ (i := 14) (v := .bool false) rfl (Or.inl ⟨by kernel_rfl, fun w' _ => by kernel_rfl⟩) hH ?_
                  simp only [Act.put, la1, la2, la3, la4, la5, la6]
                  refine tk_ (i := 15) (v := .bool false) rfl (Or.inl ⟨by kernel_rfl, fun w' _ => by kernel_rfl⟩) hH ?_
                  simp only [Act.put, la1, la2, la3, la4, la5, la6]
                  refine rd1 (i := 16) (by kernel_rfl) rfl (fun K hK => ?_)
                  go_simp
                  refine hK.out _ _ (hH) (fun hH => ?_)
                  clear hK K
                  try simp only [Act.put, la1, la2, la3, la4, la5, la6]
                  refine wpAnyH_done (by kernel_rfl) ?_ _
                  try simp only [Act.put, la1, la2, la3, la4, la5, la6]
                  have HW21 := hid hH.2
                  clear hH
                  go_wp2_with fail
                  go_roundw
                  case rel => exact ⟨j + 1, by omega, by go_num, false, rfl, HX, hid (HR20.out.drew), HW21⟩
                  case measure => simp [intOf]; omega
          · go_simp
            have HIX : Hid (w5.heap.size < wr.heap.size) := hid RK.out.lt
            have RIT : Row (wr.drew.alloc (.cells #[.int .i64 0, .int .i64 0, .int .i64 0, .int .i64 0, .int .u64 0, .int .u64 0, .int .i64 0, .int .i64 0, .int .i64 0, .int .u64 0, .int .i64 0, .int .i64 0, .int .i64 0, .int .i64 0, .string ⟨#[]⟩] 40)) wr.heap.size 40 (#[.int .i64 0, .int .i64 0, .int .i64 0, .int .i64 0, .int .u64 0, .int .u64 0, .int .i64 0, .int .i64 0, .int .i64 0, .int .u64 0, .int .i64 0, .int .i64 0, .int .i64 0, .int .i64 0, .string ⟨#[]⟩] : Array Value).toList := by
              have h := Row.new wr.drew 40 #[.int .i64 0, .int .i64 0, .int .i64 0, .int .i64 0, .int .u64 0, .int .u64 0, .int .i64 0, .int .i64 0, .int .i64 0, .int .u64 0, .int .i64 0, .int .i64 0, .int .i64 0, .int .i64 0, .string ⟨#[]⟩]
              rwa [show wr.drew.heap.size = wr.heap.size by simp] at h
            refine hK.out _ _ ⟨hH.1.alloc _, hH.2.alloc hH.2.size _⟩ (fun hH => ?_)
            clear hK K
            try simp only [Act.put, la1, la2, la3, la4, la5, la6]
            refine rd1 (i := 6) (by kernel_rfl) rfl (fun K hK => ?_)
            go_simp
            go_at_call 12
            refine (HSY.out _ hH.2).mono ?_
            rintro y w14 ⟨rfl, hb⟩
            go_wp2_with fail
            replace RIT := RIT.below hb RIT.lt
            refine hK.out _ _ (⟨hH.1.below hb hH.1.lt, hH.2.trans (hb.mono hH.2.size)⟩) (fun hH => ?_)
            clear hb
            clear hK K
            try simp only [Act.put, la1, la2, la3, la4, la5, la6]
            refine rd1 (i := 8) (by kernel_rfl) rfl (fun K hK => ?_)
            rw [if_pos (by kernel_rfl)]
            refine wp_store_st (.tmp 11) (.tmp 75) rfl HZI.out (wr.heap.size) #[.int .i64 0, .int .i64 0, .int .i64 0, .int .i64 0, .int .u64 0, .int .u64 0, .int .i64 0, .int .i64 0, .int .i64 0, .int .u64 0, .int .i64 0, .int .i64 0, .int .i64 0, .int .i64 0, .string ⟨#[]⟩] x.cells rfl rfl RIT rfl rfl (itc_one _) (fun w15 hr15 hg15 => ?_)
            refine hK.out _ _ ⟨hH.1.grown hg15 (by intro y; have : w5.heap.size = wr.heap.size := Option.some.inj y; have := HIX.out; omega), hH.2.trans (below_grown hg15 (Nat.le_of_lt HIX.out) hH.2.size)⟩ (fun hH => ?_)
            clear hK K
            try simp only [Act.put, la1, la2, la3]
            refine wpAnyH_done (by kernel_rfl) ?_ _
            try simp only [Act.put, la1, la2, la3, la4, la5, la6]
            obtain ⟨gI, hgI⟩ : ∃ g, wr.heap.size = g := ⟨_, rfl⟩
            rw [hgI] at hr15 ⊢
            have HRI := hid hr15
            have HR20 := hid hH.1
            have HW20 := hid hH.2
            clear hH hr15 hg15 hgI HIX RIT
            cases th
            case true =>
              have HX : Hid ((M.take (j + 1)).any (isE18 e) = true) := hid (by rw [HSN.out]; rfl)
              go_wp2_with fail
              refine wp_region_held_drew (S := (fun W => Row W gI 40 x.cells.toList ∧ Below w5.heap.size w5 W)) (by kernel_rfl) (⟨HRI.out.drew, HW20.out.drew⟩) (fun hH => ?_)
              refine tk_ (i := 0) (v := .bool true) rfl (Or.inl ⟨by rfl, fun w' hw' => by clear hw'; go_simp⟩) hH ?_
              simp only [Act.put, la1, la3, la4, la5, la6]
              refine tk_ (i := 1) (v := .bool true) rfl (Or.inl ⟨by rfl, fun w' hw' => by clear hw'; go_simp⟩) hH ?_
              simp only [Act.put, la1, la2, la3, la4, la5, la6]
              refine tk_ (i := 2) (v := undef) rfl (Or.inr ⟨by kernel_rfl, rfl⟩) hH ?_
              simp only [Act.put, la1, la2, la3, la4, la5, la6]
              refine tk_ (i := 3) (v := undef) rfl (Or.inr ⟨by kernel_rfl, rfl⟩) hH ?_
              simp only [Act.put, la1, la2, la3, la4, la5, la6]
              refine tk_ (i := 4) (v := undef) rfl (Or.inr ⟨by kernel_rfl, rfl⟩) hH ?_
              simp only [Act.put, la1, la2, la3, la4, la5, la6]
              refine tk_ (i := 5) (v := undef) rfl (Or.inr ⟨by kernel_rfl, rfl⟩) hH ?_
              simp only [Act.put, la1, la2, la3, la4, la5, la6]
              refine tk_ (i := 6) (v := undef) rfl (Or.inr ⟨by kernel_rfl, rfl⟩) hH ?_
              simp only [Act.put, la1, la2, la3, la4, la5, la6]
              refine tk_ (i := 7) (v := undef) rfl (Or.inr ⟨by kernel_rfl, rfl⟩) hH ?_
              simp only [Act.put, la1, la2, la3, la4, la5, la6]
              refine tk_ (i := 8) (v := undef) rfl (Or.inr ⟨by kernel_rfl, rfl⟩) hH ?_
              simp only [Act.put, la1, la2, la3, la4, la5, la6]
              refine tk_ (i := 9) (v := undef) rfl (Or.inr ⟨by kernel_rfl, rfl⟩) hH ?_
              simp only [Act.put, la1, la2, la3, la4, la5, la6]
              refine tk_ (i := 10) (v := undef) rfl (Or.inr ⟨by kernel_rfl, rfl⟩) hH ?_
              simp only [Act.put, la1, la2, la3, la4, la5, la6]
              refine tk_ (i := 11) (v := undef) rfl (Or.inr ⟨by kernel_rfl, rfl⟩) hH ?_
              simp only [Act.put, la1, la2, la3, la4, la5, la6]
              refine tk_ (i := 12) (v := undef) rfl (Or.inr ⟨by kernel_rfl, rfl⟩) hH ?_
              simp only [Act.put, la1, la2, la3, la4, la5, la6]
              refine tk_ (i := 13) (v := undef) rfl (Or.inr ⟨by kernel_rfl, rfl⟩) hH ?_
              simp only [Act.put, la1, la2, la3, la4, la5, la6]
              refine tk_ (i := 14) (v := undef) rfl (Or.inr ⟨by kernel_rfl, rfl⟩) hH ?_
              simp only [Act.put, la1, la2, la3, la4, la5, la6]
              refine tk_ (i := 15) (v := .bool true) rfl (Or.inl ⟨by kernel_rfl, fun w' _ => by kernel_rfl⟩) hH ?_
              simp only [Act.put, la1, la2, la3, la4, la5, la6]
              refine rd1 (i := 16) (by kernel_rfl) rfl (fun K hK => ?_)
              go_simp
              refine hK.out _ _ (hH) (fun hH => ?_)
              clear hK K
              try simp only [Act.put, la1, la2, la3, la4, la5, la6]
              refine wpAnyH_done (by kernel_rfl) ?_ _
              try simp only [Act.put, la1, la2, la3, la4, la5, la6]
              have HW21 := hid hH.2
              clear hH
              go_wp2_with fail
              go_roundw
              case rel => exact ⟨j + 1, by omega, by go_num, true, rfl, HX, hid (HR20.out.drew), HW21⟩
              case measure => simp [intOf]; omega
            case false =>
              cases hk1 : (x.kind == 1)
              case false =>
                have HX : Hid ((M.take (j + 1)).any (isE18 e) = false) := hid (by rw [HSN.out, decide_eq_false (fun h => by rw [h.1] at hk1; cases hk1)]; rfl)
                have HK1 := hid hk1
                clear hk1
                go_wp2_with fail
                refine wp_region_held_drew (S := (fun W => Row W gI 40 x.cells.toList ∧ Below w5.heap.size w5 W)) (by kernel_rfl) (⟨HRI.out.drew, HW20.out.drew⟩) (fun hH => ?_)
                refine tk_ (i := 0) (v := .bool false) rfl (Or.inl ⟨by rfl, fun w' hw' => by clear hw'; go_simp⟩) hH ?_
                simp only [Act.put, la1, la3, la4, la5, la6]
                refine tk_ (i := 1) (v := .bool false) rfl (Or.inl ⟨by rfl, fun w' hw' => by clear hw'; go_simp⟩) hH ?_
                simp only [Act.put, la1, la2, la3, la4, la5, la6]
                refine tk_ (i := 2) (v := .pointer (some ⟨gI, 0, none⟩)) rfl (Or.inl ⟨by kernel_rfl, fun w' _ => by kernel_rfl⟩) hH ?_
                simp only [Act.put, la1, la2, la3, la4, la5, la6]
                refine tk_ (i := 3) (v := .int .i64 x.kind) rfl (Or.inl ⟨by kernel_rfl, fun w' hw' => by have h : w'.cell? ⟨gI, 0, none⟩ = some (.int .i64 x.kind) := hw'.1.cell 0; clear hw'; go_simp⟩) hH ?_
                simp only [Act.put, la1, la2, la3, la4, la5, la6]
                refine tk_ (i := 4) (v := .bool false) rfl (Or.inl ⟨by kernel_rfl, fun w' hw' => by clear hw'; have h := HK1.out; go_simp⟩) hH ?_
                simp only [Act.put, la1, la2, la3, la4, la5, la6]
                refine tk_ (i := 5) (v := .bool false) rfl (Or.inl ⟨by kernel_rfl, fun w' _ => by kernel_rfl⟩) hH ?_
                simp only [Act.put, la1, la2, la3, la4, la5, la6]
                refine tk_ (i := 6) (v := undef) rfl (Or.inr ⟨by kernel_rfl, rfl⟩) hH ?_
                simp only [Act.put, la1, la2, la3, la4, la5, la6]
                refine tk_ (i := 7) (v := undef) rfl (Or.inr ⟨by kernel_rfl, rfl⟩) hH ?_
                simp only [Act.put, la1, la2, la3, la4, la5, la6]
                refine tk_ (i := 8) (v := undef) rfl (Or.inr ⟨by kernel_rfl, rfl⟩) hH ?_
                simp only [Act.put, la1, la2, la3, la4, la5, la6]
                refine tk_ (i := 9) (v := undef) rfl (Or.inr ⟨by kernel_rfl, rfl⟩) hH ?_
                simp only [Act.put, la1, la2, la3, la4, la5, la6]
                refine tk_ (i := 10) (v := undef) rfl (Or.inr ⟨by kernel_rfl, rfl⟩) hH ?_
                simp only [Act.put, la1, la2, la3, la4, la5, la6]
                refine tk_ (i := 11) (v := undef) rfl (Or.inr ⟨by kernel_rfl, rfl⟩) hH ?_
                simp only [Act.put, la1, la2, la3, la4, la5, la6]
                refine tk_ (i := 12) (v := undef) rfl (Or.inr ⟨by kernel_rfl, rfl⟩) hH ?_
                simp only [Act.put, la1, la2, la3, la4, la5, la6]
                refine tk_ (i := 13) (v := undef) rfl (Or.inr ⟨by kernel_rfl, rfl⟩) hH ?_
                simp only [Act.put, la1, la2, la3, la4, la5, la6]
                refine tk_ (i := 14) (v := .bool false) rfl (Or.inl ⟨by kernel_rfl, fun w' _ => by kernel_rfl⟩) hH ?_
                simp only [Act.put, la1, la2, la3, la4, la5, la6]
                refine tk_ (i := 15) (v := .bool false) rfl (Or.inl ⟨by kernel_rfl, fun w' _ => by kernel_rfl⟩) hH ?_
                simp only [Act.put, la1, la2, la3, la4, la5, la6]
                refine rd1 (i := 16) (by kernel_rfl) rfl (fun K hK => ?_)
                go_simp
                refine hK.out _ _ (hH) (fun hH => ?_)
                clear hK K
                try simp only [Act.put, la1, la2, la3, la4, la5, la6]
                refine wpAnyH_done (by kernel_rfl) ?_ _
                try simp only [Act.put, la1, la2, la3, la4, la5, la6]
                have HW21 := hid hH.2
                clear hH
                go_wp2_with fail
                go_roundw
                case rel => exact ⟨j + 1, by omega, by go_num, false, rfl, HX, hid (HR20.out.drew), HW21⟩
                case measure => simp [intOf]; omega
              case true =>
                have HK1 := hid hk1
                by_cases he : x.entry = e
                · have HX : Hid ((M.take (j + 1)).any (isE18 e) = true) := hid (by rw [HSN.out, decide_eq_true ⟨by simpa using hk1, he⟩]; rfl)
                  have HEE : Hid (x.entry = e) := hid he
                  clear hk1 he
                  go_wp2_with fail
                  refine wp_region_held_drew (S := (fun W => Row W gI 40 x.cells.toList ∧ Below w5.heap.size w5 W)) (by kernel_rfl) (⟨HRI.out.drew, HW20.out.drew⟩) (fun hH => ?_)
                  refine tk_ (i := 0) (v := .bool false) rfl (Or.inl ⟨by rfl, fun w' hw' => by clear hw'; go_simp⟩) hH ?_
                  simp only [Act.put, la1, la3, la4, la5, la6]
                  refine tk_ (i := 1) (v := .bool false) rfl (Or.inl ⟨by rfl, fun w' hw' => by clear hw'; go_simp⟩) hH ?_
                  simp only [Act.put, la1, la2, la3, la4, la5, la6]
                  refine tk_ (i := 2) (v := .pointer (some ⟨gI, 0, none⟩)) rfl (Or.inl ⟨by kernel_rfl, fun w' _ => by kernel_rfl⟩) hH ?_
                  simp only [Act.put, la1, la2, la3, la4, la5, la6]
                  refine tk_ (i := 3) (v := .int .i64 x.kind) rfl (Or.inl ⟨by kernel_rfl, fun w' hw' => by have h : w'.cell? ⟨gI, 0, none⟩ = some (.int .i64 x.kind) := hw'.1.cell 0; clear hw'; go_simp⟩) hH ?_
                  simp only [Act.put, la1, la2, la3, la4, la5, la6]
                  refine tk_ (i := 4) (v := .bool true) rfl (Or.inl ⟨by kernel_rfl, fun w' hw' => by clear hw'; have h := HK1.out; go_simp⟩) hH ?_
                  simp only [Act.put, la1, la2, la3, la4, la5, la6]
                  refine tk_ (i := 5) (v := .bool true) rfl (Or.inl ⟨by kernel_rfl, fun w' _ => by kernel_rfl⟩) hH ?_
                  simp only [Act.put, la1, la2, la3, la4, la5, la6]
                  refine tk_ (i := 6) (v := .pointer (some ⟨gI, 6, none⟩)) rfl (Or.inl ⟨by kernel_rfl, fun w' _ => by kernel_rfl⟩) hH ?_
                  simp only [Act.put, la1, la2, la3, la4, la5, la6]
                  refine tk_ (i := 7) (v := .agg (x.entry.cells)) rfl (yieldsIf_load_mid (by kernel_rfl) 35 (.tmp 82) rfl gI 6 rfl (Array.toList (x.entry.cells)) _ (fun W hW => it_entry hW.1) Tryz.underlying35 rfl (by exact HZE.out)) hH ?_
                  simp only [Act.put, la1, la2, la3, la4, la5, la6]
                  refine tk_ (i := 8) (v := .pointer (some ⟨w3.heap.size, 5, none⟩)) rfl (Or.inl ⟨by kernel_rfl, fun w' _ => by kernel_rfl⟩) hH ?_
                  simp only [Act.put, la1, la2, la3, la4, la5, la6]
                  refine tk_ (i := 9) (v := .slice (some ⟨gE, oE, none⟩) u c2) rfl (Or.inl ⟨by kernel_rfl, fun w' hw' => by have h : w'.cell? ⟨w3.heap.size, 5, none⟩ = some (.slice (some ⟨gE, oE, none⟩) u c2) := (by rw [HU.out]; exact (R5.out.below hw'.2 R5.out.lt).cell 5); clear hw'; go_simp⟩) hH ?_
                  simp only [Act.put, la1, la2, la3, la4, la5, la6]
                  refine tk_ (i := 10) (v := .int .i64 (k : Int)) rfl (Or.inl ⟨by kernel_rfl, fun w' _ => by kernel_rfl⟩) hH ?_
                  simp only [Act.put, la1, la2, la3, la4, la5, la6]
                  refine tk_ (i := 11) (v := .pointer (some ⟨gE, oE + k * 9, none⟩)) rfl (Or.inl ⟨by kernel_rfl, fun w' hw' => by clear hw'; go_simp⟩) hH ?_
                  simp only [Act.put, la1, la2, la3, la4, la5, la6]
                  refine tk_ (i := 12) (v := .agg (e.cells)) rfl (yieldsIf_load_mid (by kernel_rfl) 35 (.tmp 87) rfl gE (oE + k * 9) rfl (Array.toList (e.cells)) _ (fun W hW => HRG.out W hW.2) Tryz.underlying35 rfl (by exact HZE.out)) hH ?_
                  simp only [Act.put, la1, la2, la3, la4, la5, la6]
                  refine tk_ (i := 13) (v := .bool true) rfl (yields_eqe18 (by kernel_rfl) x.entry e true (hid ⟨fun _ => HEE.out, fun _ => rfl⟩) (.tmp 83) (.tmp 88) _ rfl (by kernel_rfl) (by kernel_rfl)) hH ?_
                  simp only [Act.put, la1, la2, la3, la4, la5, la6]
                  refine tk_ (i := 14) (v := .bool true) rfl (Or.inl ⟨by kernel_rfl, fun w' _ => by kernel_rfl⟩) hH ?_
                  simp only [Act.put, la1, la2, la3, la4, la5, la6]
                  refine tk_ (i := 15) (v := .bool true) rfl (Or.inl ⟨by kernel_rfl, fun w' _ => by kernel_rfl⟩) hH ?_
                  simp only [Act.put, la1, la2, la3, la4, la5, la6]
                  refine rd1 (i := 16) (by kernel_rfl) rfl (fun K hK => ?_)
                  go_simp
                  refine hK.out _ _ (hH) (fun hH => ?_)
                  clear hK K
                  try simp only [Act.put, la1, la2, la3, la4, la5, la6]
                  refine wpAnyH_done (by kernel_rfl) ?_ _
                  try simp only [Act.put, la1, la2, la3, la4, la5, la6]
                  have HW21 := hid hH.2
                  clear hH
                  go_wp2_with fail
                  go_roundw
                  case rel => exact ⟨j + 1, by omega, by go_num, true, rfl, HX, hid (HR20.out.drew), HW21⟩
                  case measure => simp [intOf]; omega
                · have HX : Hid ((M.take (j + 1)).any (isE18 e) = false) := hid (by rw [HSN.out, decide_eq_false (fun h => he h.2)]; rfl)
                  have HEE : Hid (¬ x.entry = e) := hid he
                  clear hk1 he
                  go_wp2_with fail
                  refine wp_region_held_drew (S := (fun W => Row W gI 40 x.cells.toList ∧ Below w5.heap.size w5 W)) (by kernel_rfl) (⟨HRI.out.drew, HW20.out.drew⟩) (fun hH => ?_)
                  refine tk_ (i := 0) (v := .bool false) rfl (Or.inl ⟨by rfl, fun w' hw' => by clear hw'; go_simp⟩) hH ?_
                  simp only [Act.put, la1, la3, la4, la5, la6]
                  refine tk_ (i := 1) (v := .bool false) rfl (Or.inl ⟨by rfl, fun w' hw' => by clear hw'; go_simp⟩) hH ?_
                  simp only [Act.put, la1, la2, la3, la4, la5, la6]
                  refine tk_ (i := 2) (v := .pointer (some ⟨gI, 0, none⟩)) rfl (Or.inl ⟨by kernel_rfl, fun w' _ => by kernel_rfl⟩) hH ?_
                  simp only [Act.put, la1, la2, la3, la4, la5, la6]
                  refine tk_ (i := 3) (v := .int .i64 x.kind) rfl (Or.inl ⟨by kernel_rfl, fun w' hw' => by have h : w'.cell? ⟨gI, 0, none⟩ = some (.int .i64 x.kind) := hw'.1.cell 0; clear hw'; go_simp⟩) hH ?_
                  simp only [Act.put, la1, la2, la3, la4, la5, la6]
                  refine tk_ (i := 4) (v := .bool true) rfl (Or.inl ⟨by kernel_rfl, fun w' hw' => by clear hw'; have h := HK1.out; go_simp⟩) hH ?_
                  simp only [Act.put, la1, la2, la3, la4, la5, la6]
                  refine tk_ (i := 5) (v := .bool true) rfl (Or.inl ⟨by kernel_rfl, fun w' _ => by kernel_rfl⟩) hH ?_
                  simp only [Act.put, la1, la2, la3, la4, la5, la6]
                  refine tk_ (i := 6) (v := .pointer (some ⟨gI, 6, none⟩)) rfl (Or.inl ⟨by kernel_rfl, fun w' _ => by kernel_rfl⟩) hH ?_
                  simp only [Act.put, la1, la2, la3, la4, la5, la6]
                  refine tk_ (i := 7) (v := .agg (x.entry.cells)) rfl (yieldsIf_load_mid (by kernel_rfl) 35 (.tmp 82) rfl gI 6 rfl (Array.toList (x.entry.cells)) _ (fun W hW => it_entry hW.1) Tryz.underlying35 rfl (by exact HZE.out)) hH ?_
                  simp only [Act.put, la1, la2, la3, la4, la5, la6]
                  refine tk_ (i := 8) (v := .pointer (some ⟨w3.heap.size, 5, none⟩)) rfl (Or.inl ⟨by kernel_rfl, fun w' _ => by kernel_rfl⟩) hH ?_
                  simp only [Act.put, la1, la2, la3, la4, la5, la6]
                  refine tk_ (i := 9) (v := .slice (some ⟨gE, oE, none⟩) u c2) rfl (Or.inl ⟨by kernel_rfl, fun w' hw' => by have h : w'.cell? ⟨w3.heap.size, 5, none⟩ = some (.slice (some ⟨gE, oE, none⟩) u c2) := (by rw [HU.out]; exact (R5.out.below hw'.2 R5.out.lt).cell 5); clear hw'; go_simp⟩) hH ?_
                  simp only [Act.put, la1, la2, la3, la4, la5, la6]
                  refine tk_ (i := 10) (v := .int .i64 (k : Int)) rfl (Or.inl ⟨by kernel_rfl, fun w' _ => by kernel_rfl⟩) hH ?_
                  simp only [Act.put, la1, la2, la3, la4, la5, la6]
                  refine tk_ (i := 11) (v := .pointer (some ⟨gE, oE + k * 9, none⟩)) rfl (Or.inl ⟨by kernel_rfl, fun w' hw' => by clear hw'; go_simp⟩) hH ?_
                  simp only [Act.put, la1, la2, la3, la4, la5, la6]
                  refine tk_ (i := 12) (v := .agg (e.cells)) rfl (yieldsIf_load_mid (by kernel_rfl) 35 (.tmp 87) rfl gE (oE + k * 9) rfl (Array.toList (e.cells)) _ (fun W hW => HRG.out W hW.2) Tryz.underlying35 rfl (by exact HZE.out)) hH ?_
                  simp only [Act.put, la1, la2, la3, la4, la5, la6]
                  refine tk_ (i := 13) (v := .bool false) rfl (yields_eqe18 (by kernel_rfl) x.entry e false (hid ⟨(fun h => by cases h), fun h => absurd h HEE.out⟩) (.tmp 83) (.tmp 88) _ rfl (by kernel_rfl) (by kernel_rfl)) hH ?_
                  simp only [Act.put, la1, la2, la3, la4, la5, la6]
                  refine tk_ (i := 14) (v := .bool false) rfl (Or.inl ⟨by kernel_rfl, fun w' _ => by kernel_rfl⟩) hH ?_
                  simp only [Act.put, la1, la2, la3, la4, la5, la6]
                  refine tk_ (i := 15) (v := .bool false) rfl (Or.inl ⟨by kernel_rfl, fun w' _ => by kernel_rfl⟩) hH ?_
                  simp only [Act.put, la1, la2, la3, la4, la5, la6]
                  refine rd1 (i := 16) (by kernel_rfl) rfl (fun K hK => ?_)
                  go_simp
                  refine hK.out _ _ (hH) (fun hH => ?_)
                  clear hK K
                  try simp only [Act.put, la1, la2, la3, la4, la5, la6]
                  refine wpAnyH_done (by kernel_rfl) ?_ _
                  try simp only [Act.put, la1, la2, la3, la4, la5, la6]
                  have HW21 := hid hH.2
                  clear hH
                  go_wp2_with fail
                  go_roundw
                  case rel => exact ⟨j + 1, by omega, by go_num, false, rfl, HX, hid (HR20.out.drew), HW21⟩
                  case measure => simp [intOf]; omega
        · obtain rfl : j = mm := by omega
          have HX : Hid (th = true) := hid (by
            have h := HT.out
            rw [List.take_of_length_le (by rw [HMM.out]; exact Nat.le_refl _), HANY.out] at h
            exact h.symm)
          obtain rfl := HX.out
          go_wp2_with fail
          go_roundw
          case rel => exact ⟨k + 1, by omega, by go_num, mk, HQ4, RK, HW⟩
          case measure => simp [intOf]; omega
    · obtain rfl : k = u := by omega
      have x4 : wr.cell? ⟨w3.heap.size, 4, none⟩ = some (.int .i64 cm) := RC.out.cell 4
      have x1 : wr.cell? ⟨w3.heap.size, 1, none⟩ = some (.int .i64 m0.opn) := RC.out.cell 1
      have hu8'' : (k : Int) ≤ 8 := hu8'
      clear HRD5 HLM HLF HMK HFO HQ
      go_wp2_with fail
      go_ret
      exact ⟨by simp, HBX.out⟩
end Go.Proofs.YteahbalcielhpaaGreatDoor
