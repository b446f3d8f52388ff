/-
  The program's Choose.
-/
import Derived.Test.YteahbalcielhpaaDoorM24
namespace Go.Proofs.YteahbalcielhpaaDoor
open Go.RowKit
set_option maxRecDepth 10000

/-- a choice's cells -/
def chC (x : Ch) (A : Option Addr) (c : Nat) : Array Value := #[.bool x.ready, .int .i64 x.check.opn, .int .i64 x.check.view, .int .u64 (x.check.sum : Int), .int .i64 x.commit, .slice A x.es.length c]
theorem chC_one (x : Ch) (A : Option Addr) (c : Nat) : (chC x A c).all (·.oneCell') = true := by simp [chC, Value.oneCell']
theorem chsize : (Tryd.prog.info? 36).map (·.size) = some 6 := by kernel_rfl
/-- what Choose answers -/
def CQ (w : World) (x : Ch) (e : Ending) (w' : World) : Prop := ∃ A c, e = .returned (.agg (chC x A c)) ∧ x.es.length ≤ c ∧ Below w.heap.size w w' ∧ w'.ownsRow w.heap.size 30 9 (.slice A x.es.length c) x.es.length (rws enC x.es)
theorem bad_clean {m : Ms} (h : LogR m) : m.xs.any badI = !decide (cleanC m) := by
  have hk : ∀ x ∈ m.xs, badI x = !decide (x.kind ≤ 1) := fun x hx => by
    have h1 := h.2.2.2.2.2.1 x hx
    have h2 : x.kind = 0 ∨ x.kind = 1 ∨ x.kind = 2 ∨ x.kind = 3 := by
      unfold itemR at h1
      by_cases a : x.kind = 1
      · exact .inr (.inl a)
      · by_cases b : x.kind = 2
        · exact .inr (.inr (.inl b))
        · rw [if_neg a, if_neg b] at h1
          rcases h1.1 with c | c
          · exact .inl c
          · exact .inr (.inr (.inr c))
    unfold badI
    rcases h2 with e | e | e | e <;> rw [e] <;> rfl
  rw [Bool.eq_iff_iff]
  simp only [List.any_eq_true, Bool.not_eq_true', decide_eq_false_iff_not]
  unfold cleanC
  constructor
  · rintro ⟨x, hx, hb⟩ hc
    rw [hk x hx] at hb
    have := hc x hx
    simp [this] at hb
  · intro hc
    rw [Classical.not_forall] at hc
    obtain ⟨x, hc⟩ := hc
    rw [Classical.not_imp] at hc
    refine ⟨x, hc.1, ?_⟩
    rw [hk x hc.1]
    simp [hc.2]
theorem decQ_eq {count : Int} (hc : count = 3 ∨ count = 5) {M : List LP} (h : LogF M) : decQ count M = decP18 count (M.map Prod.fst) := by
  unfold decQ decP18
  rw [List.length_map]
  have e1 : enoughQ count = enoughC count := by rcases hc with rfl | rfl <;> rfl
  rw [e1]
  congr 2
  rw [List.all_map, List.all_eq_not_any_not]
  congr 1
  have key : ∀ l : List LP, (∀ x ∈ l, LogR x.1) → l.any badM = l.any fun x => !((fun m : Ms => decide (cleanC m)) ∘ Prod.fst) x := by
    intro l
    induction l with
    | nil => intro _; rfl
    | cons x l ih =>
      intro hl
      rw [List.any_cons, List.any_cons, ih (fun y hy => hl y (by simp [hy]))]
      congr 1
      exact bad_clean (hl x (by simp))
  exact key M fun x hx => (h x hx).1
theorem farK_eq {M : List LP} {a : LP} (h : M.head? = some a) : (farK a M).1 = farC (M.map Prod.fst) := by
  have key : ∀ (l : List LP) (a : LP), (l.foldl (fun a x => if a.1.check.opn < x.1.check.opn then x else a) a).1 = (l.map Prod.fst).foldl (fun a m => if a.check.opn < m.check.opn then m else a) a.1 := by
    intro l
    induction l with
    | nil => intro a; rfl
    | cons x l ih =>
      intro a
      rw [List.map_cons, List.foldl_cons, List.foldl_cons, ih]
      congr 1
      split <;> rfl
  unfold farK farC
  rw [key]
  obtain ⟨r, rfl⟩ : ∃ r, M = a :: r := by
    cases M with
    | nil => cases h
    | cons y r => cases h; exact ⟨r, rfl⟩
  rfl
theorem comQ_eq (c : Int) (M : List LP) : comQ c M = comP18 c (M.map Prod.fst) := by
  unfold comQ comP18
  rw [List.foldl_map]
theorem logsQ_len (count : Int) (L : List LP) : (logsQ count L).length ≤ 5 := ls18_len count L 5
set_option maxHeartbeats 4000000 in
theorem choose_no (count : Int) (A : Option Addr) (n c : Nat) (w : World) (hcnt : mayQ count = false) : Calls Tryd.prog 7 #[.int .i64 count, .slice A n c] w (CQ w ch0) := by
  have HM : Hid (∀ W, Calls Tryd.prog 14 #[.int .i64 count] W fun e w' => e = .returned (.bool false) ∧ W = w') := hid fun W => by have := qmay_any count W; rwa [hcnt] at this
  have HZC := hid chsize
  have HB0 : Hid (Below w.heap.size w (w.alloc (.cells #[.bool false, .int .i64 0, .int .i64 0, .int .u64 0, .int .i64 0, .slice none 0 0] 36))) := hid ((Below.refl _ _).alloc (Nat.le_refl _) _)
  have R0 : Hid (Row (w.alloc (.cells #[.bool false, .int .i64 0, .int .i64 0, .int .u64 0, .int .i64 0, .slice none 0 0] 36)) w.heap.size 36 (#[.bool false, .int .i64 0, .int .i64 0, .int .u64 0, .int .i64 0, .slice none 0 0] : Array Value).toList) := hid (Row.new _ _ _)
  clear hcnt
  go_enter Tryd.func7, Tryd.ntmps7
  go_wp2_with (first
        | (go_at_call 14; refine (HM.out _).mono ?_; rintro x w1 ⟨rfl, rfl⟩)
        | ((with_reducible show wpList _ _ _ ({ dst := none, op := .store _ (.tmp 4) (.tmp 10), type := _, pos := _, after := _, guard := _ } :: _) _ _); refine wpl_store_st rfl (.tmp 4) (.tmp 10) rfl HZC.out (w.heap.size) (#[.bool false, .int .i64 0, .int .i64 0, .int .u64 0, .int .i64 0, .slice none 0 0]) (chC ch0 none 0) rfl rfl (R0.out) ?_ (hid (by first | rfl | simp)) (hid (by first | rfl | simp)) (hid (chC_one _ _ _)); intro w9 hr9 hg9))
  exact bodyPost_ret (v := .agg (chC ch0 none 0)) (results_cell_row rfl _ _ w.heap.size 36 (chC ch0 none 0) (0, 0) _ rfl (Row.arr (cs := chC ch0 none 0) hr9) Tryd.underlying36 rfl HZC.out) rfl ⟨none, 0, rfl, Nat.le_refl _, HB0.out.trans (below_grown hg9 (Nat.le_refl _) HB0.out.size), rfl, .inl ⟨rfl, rfl⟩⟩
set_option maxHeartbeats 8000000 in
theorem choose_may (count : Int) (A : Option Addr) (L : List LP) (n c B : Nat) (w : World) (hr : Lm w B A L) (hf : ∀ x ∈ L, x.1.fits) (hn : n = L.length) (hc : n ≤ c) (hB : B ≤ w.heap.size) (hb : n ≤ 9223372036854775806) (hcnt : count = 3 ∨ count = 5) (hfd : Fd w) (hmd : Md w) :
    Calls Tryd.prog 7 #[.int .i64 count, .slice A n c] w (CQ w (chsP18 count (L.map Prod.fst))) := by
  have hmq : mayQ count = true := by rcases hcnt with rfl | rfl <;> rfl
  have HM : Hid (∀ W, Calls Tryd.prog 14 #[.int .i64 count] W fun e w' => e = .returned (.bool true) ∧ W = w') := hid fun W => by have := qmay_any count W; rwa [hmq] at this
  have HZC := hid chsize
  have HZK := hid msize
  have HB0 : Hid (Below w.heap.size w (w.alloc (.cells #[.bool false, .int .i64 0, .int .i64 0, .int .u64 0, .int .i64 0, .slice none 0 0] 36))) := hid ((Below.refl _ _).alloc (Nat.le_refl _) _)
  have R0 : Hid (Row (w.alloc (.cells #[.bool false, .int .i64 0, .int .i64 0, .int .u64 0, .int .i64 0, .slice none 0 0] 36)) w.heap.size 36 (#[.bool false, .int .i64 0, .int .i64 0, .int .u64 0, .int .i64 0, .slice none 0 0] : Array Value).toList) := hid (Row.new _ _ _)
  have HC := hid (counting_any count A L n c B _ (hr.below HB0.out hB) hf hn hc (by simp; omega) hb hcnt (hfd.below HB0.out hfd.1) (hmd.below HB0.out hmd.1))
  have hLF := logsQ_fits (count := count) hf
  have hLE := logsQ_eq count L
  have hLL := logsQ_len count L
  have HFD := hid hfd
  have hdq := decQ_eq hcnt hLF
  have hch : chsP18 count (L.map Prod.fst) = if decQ count (logsQ count L) = true then ⟨true, (farC ((logsQ count L).map Prod.fst)).check, comP18 (farC ((logsQ count L).map Prod.fst)).check.opn ((logsQ count L).map Prod.fst), goP18 ((logsQ count L).map Prod.fst) 8 (farC ((logsQ count L).map Prod.fst)).check⟩ else ch0 := by
    unfold chsP18
    rw [hdq, hLE]
    by_cases hd : decP18 count (logsC count (L.map Prod.fst)) = true
    · rw [if_pos ⟨hcnt, hd⟩, if_pos hd]
    · rw [if_neg (fun h => hd h.2), if_neg hd]
  have hne : decQ count (logsQ count L) = true → logsQ count L ≠ [] := by
    intro h e
    rw [e] at h
    rcases hcnt with rfl | rfl <;> exact absurd h (by decide)
  rw [hch]
  generalize logsQ count L = M at *
  have HDC := hid (fun (A1 : Option Addr) (c1 : Nat) (W : World) (h : Lm W W.heap.size A1 M) (hc1 : M.length ≤ c1) => decided_any count A1 M M.length c1 W.heap.size W h rfl hc1 (Nat.le_refl _) (by omega))
  cases hd : decQ count M
  case false =>
    rw [hd] at HDC
    rw [if_neg (by simp)]
    clear hr hf hn hcnt hfd hmd hmq hLF hLE hdq hch hne hd
    go_enter Tryd.func7, Tryd.ntmps7
    go_wp2_with (first
          | (go_at_call 14; refine (HM.out _).mono ?_; rintro x w0 ⟨rfl, rfl⟩)
          | (go_at_call 15; refine (HC.out).mono ?_; rintro x w1 ⟨A1, c1, rfl, hc1, hb, hlm⟩; have HB1 := hid (HB0.out.trans (hb.mono HB0.out.size)); have R1 := hid (R0.out.below hb R0.out.lt); have HL1 := hid hlm; have HLA := hid (show w.heap.size < w1.heap.size from R1.out.lt); clear hb hlm)
          | (go_at_call 16; refine (HDC.out _ _ _ HL1.out hc1).mono ?_; rintro x w2 ⟨rfl, hb⟩; have HB2 := hid (HB1.out.trans (hb.mono HB1.out.size)); have R2 := hid (R1.out.below hb R1.out.lt); have HL2 := hid (HL1.out.below hb (Nat.le_refl _)); have HS2 := hid hb.size; clear hb)
          | ((with_reducible show wpList _ _ _ ({ dst := none, op := .store _ (.tmp 4) (.tmp 18), type := _, pos := _, after := _, guard := _ } :: _) _ _); refine wpl_store_st rfl (.tmp 4) (.tmp 18) rfl HZC.out (w.heap.size) (#[.bool false, .int .i64 0, .int .i64 0, .int .u64 0, .int .i64 0, .slice none 0 0]) (chC ch0 none 0) rfl rfl (R2.out) ?_ (hid (by first | rfl | simp)) (hid (by first | rfl | simp)) (hid (chC_one _ _ _)); intro w9 hr9 hg9))
    exact bodyPost_ret (v := .agg (chC ch0 none 0)) (results_cell_row rfl _ _ w.heap.size 36 (chC ch0 none 0) (0, 0) _ rfl (Row.arr (cs := chC ch0 none 0) hr9) Tryd.underlying36 rfl HZC.out) rfl ⟨none, 0, rfl, Nat.le_refl _, HB2.out.trans (below_grown hg9 (Nat.le_refl _) HB2.out.size), rfl, .inl ⟨rfl, rfl⟩⟩
  case true =>
    rw [hd] at HDC
    rw [if_pos rfl]
    have hM := hne hd
    obtain ⟨a, ha⟩ : ∃ a, M.head? = some a := by
      cases hM2 : M with
      | nil => exact absurd hM2 hM
      | cons y r => exact ⟨y, rfl⟩
    have hfk := farK_eq ha
    have hpos : 0 < M.length := by
      cases hM2 : M with
      | nil => exact absurd hM2 hM
      | cons y r => simp
    have hfm : farC (M.map Prod.fst) ∈ M.map Prod.fst := far_mem (by intro e; exact hM (List.map_eq_nil_iff.1 e))
    have hbd : 0 ≤ (farC (M.map Prod.fst)).check.opn ∧ (farC (M.map Prod.fst)).check.opn ≤ 72057594037927935 := by
      obtain ⟨x, hx, e⟩ := List.mem_map.1 hfm
      rw [← e]
      exact hLF.chk hx
    have HCK := hid (fun (A1 : Option Addr) (c1 B1 : Nat) (W : World) (h : Lm W B1 A1 M) (hc1 : M.length ≤ c1) (hB1 : B1 ≤ W.heap.size) => check_any A1 M M.length c1 B1 W h rfl hc1 hB1 (by omega) hpos a ha)
    rw [hfk] at HCK
    generalize (farC (M.map Prod.fst)).check = m at *
    have HCO := hid (fun (A1 : Option Addr) (c1 B1 : Nat) (W : World) (h : Lm W B1 A1 M) (hc1 : M.length ≤ c1) (hB1 : B1 ≤ W.heap.size) => commit_any m A1 M M.length c1 B1 W h rfl hc1 hB1 (by omega))
    rw [comQ_eq] at HCO
    have HGO := hid (fun (A1 : Option Addr) (c1 B1 : Nat) (W : World) (h : Lm W B1 A1 M) (hc1 : M.length ≤ c1) (hB1 : B1 ≤ W.heap.size) (hfd : Fd W) => chosen_any m A1 M M.length c1 B1 W h hLF rfl hc1 hB1 (by omega) hbd hfd)
    generalize comP18 m.opn (M.map Prod.fst) = cm at *
    generalize goP18 (M.map Prod.fst) 8 m = es at *
    clear hr hf hn hcnt hfd hmd hmq hLF hLE hdq hch hne hd hM ha hfk hfm hbd hpos
    go_enter Tryd.func7, Tryd.ntmps7
    go_wp2_with (first
          | (go_at_call 14; refine (HM.out _).mono ?_; rintro x w0 ⟨rfl, rfl⟩)
          | (go_at_call 15; refine (HC.out).mono ?_; rintro x w1 ⟨A1, c1, rfl, hc1, hb, hlm⟩; have HB1 := hid (HB0.out.trans (hb.mono HB0.out.size)); have R1 := hid (R0.out.below hb R0.out.lt); have HL1 := hid hlm; have HLA := hid (show w.heap.size < w1.heap.size from R1.out.lt); clear hb hlm)
          | (go_at_call 16; refine (HDC.out _ _ _ HL1.out hc1).mono ?_; rintro x w2 ⟨rfl, hb⟩; have HB2 := hid (HB1.out.trans (hb.mono HB1.out.size)); have R2 := hid (R1.out.below hb R1.out.lt); have HL2 := hid (HL1.out.below hb (Nat.le_refl _)); have HS2 := hid hb.size; clear hb)
          | (go_at_call 17; refine (HCK.out _ _ _ _ HL2.out hc1 HS2.out).mono ?_; rintro x w3 ⟨rfl, hb⟩; have HB3 := hid (HB2.out.trans (hb.mono HB2.out.size)); have R3 := hid (R2.out.below hb R2.out.lt); have HL3 := hid (HL2.out.below hb HS2.out); have HS3 := hid (Nat.le_trans HS2.out hb.size); clear hb)
          | ((with_reducible show wpList _ _ _ ({ dst := none, op := .store _ (.tmp 6) (.tmp 20), type := _, pos := _, after := _, guard := _ } :: _) _ _); refine wpl_store_st rfl (.tmp 6) (.tmp 20) rfl HZK.out (w3.heap.size) (#[.int .i64 0, .int .i64 0, .int .u64 0]) (m.cells) rfl rfl (Row.new _ _ _) ?_ (hid (by first | rfl | simp)) (hid (by first | rfl | simp)) (hid (mcells_one _)); intro w4 hr4 hg; have RM := hid hr4; have hb : Below w3.heap.size w3 w4 := ((Below.refl _ _).alloc (Nat.le_refl _) (.cells #[.int .i64 0, .int .i64 0, .int .u64 0] 27)).trans (below_grown hg (Nat.le_refl _) (by simp)); have HB4 := hid (HB3.out.trans (hb.mono HB3.out.size)); have R4 := hid (R3.out.below hb R3.out.lt); have HL4 := hid (HL3.out.below hb HS3.out); have HS4 := hid (Nat.le_trans HS3.out hb.size); have HLT := hid (show w.heap.size < w3.heap.size from R3.out.lt); clear hr4 hg hb))
    have HLD : Hid (Lm w4.drew w1.heap.size A1 M) := hid (HL4.out.below (Below.refl _ _).drew HS4.out)
    refine wp_region_held_drew (S := (fun W => Row W w3.heap.size 27 m.cells.toList ∧ (∃ z : Array Value, z.size = 6 ∧ Row W w.heap.size 36 z.toList) ∧ Below w.heap.size w W)) (by kernel_rfl) (⟨RM.out.drew, ⟨_, (rfl : (#[.bool false, .int .i64 0, .int .i64 0, .int .u64 0, .int .i64 0, .slice none 0 0] : Array Value).size = 6), R4.out.drew⟩, HB4.out.drew⟩) (fun hH => ?_)
    refine tk_ (i := 0) (v := .agg (m.cells)) rfl (yieldsIf_load_mid rfl 27 (.tmp 6) rfl (w3.heap.size) 0 rfl (Array.toList (m.cells)) _ (fun W hW => Row.range hW.1) Tryd.underlying27 rfl (by exact HZK.out)) hH ?_
    simp only [Act.put, la1, la3, la4, la5, la6]
    refine tk_ (i := 1) (v := .agg (m.cells)) rfl (yieldsIf_load_mid rfl 27 (.tmp 6) rfl (w3.heap.size) 0 rfl (Array.toList (m.cells)) _ (fun W hW => Row.range hW.1) Tryd.underlying27 rfl (by exact HZK.out)) hH ?_
    simp only [Act.put, la1, la2, la3, la4, la5, la6]
    refine tk_ (i := 2) (v := .slice A1 M.length c1) rfl (Or.inl ⟨by rfl, fun w' hw' => by clear hw'; go_simp⟩) hH ?_
    simp only [Act.put, la1, la2, la3, la4, la5, la6]
    refine tk_ (i := 4) (v := .agg (m.cells)) rfl (yieldsIf_load_mid rfl 27 (.tmp 6) rfl (w3.heap.size) 0 rfl (Array.toList (m.cells)) _ (fun W hW => Row.range hW.1) Tryd.underlying27 rfl (by exact HZK.out)) hH ?_
    simp only [Act.put, la1, la2, la3, la4, la5, la6]
    refine tk_ (i := 5) (v := .slice A1 M.length c1) rfl (Or.inl ⟨by rfl, fun w' hw' => by clear hw'; go_simp⟩) hH ?_
    simp only [Act.put, la1, la2, la3, la4, la5, la6]
    refine rd1 (i := 3) (by kernel_rfl) rfl (fun K hK => ?_)
    go_simp
    go_at_call 18
    refine (HCO.out _ _ _ _ HLD.out hc1 (by simpa using HS4.out)).mono ?_
    rintro x w5 ⟨rfl, hb⟩
    go_wp2_with fail
    have HL5 := hid (HLD.out.below hb (by simpa using HS4.out))
    have HS5 : Hid (w1.heap.size ≤ w5.heap.size) := hid (Nat.le_trans HS4.out (by simpa using hb.size))
    refine hK.out _ _ (⟨hH.1.below hb hH.1.lt, hH.2.1.elim fun z h => ⟨z, h.1, h.2.below hb h.2.lt⟩, hH.2.2.trans (hb.mono hH.2.2.size)⟩) (fun hH => ?_)
    clear hK K
    try simp only [Act.put, la1, la2, la3, la4, la5, la6]
    refine rd1 (i := 6) (by kernel_rfl) rfl (fun K hK => ?_)
    go_simp
    go_at_call 19
    refine (HGO.out _ _ _ _ HL5.out hc1 HS5.out (HFD.out.below hH.2.2 HFD.out.1)).mono ?_
    rintro x w6 ⟨A9, c9, rfl, hc9, hb, hrd⟩
    go_wp2_with fail
    have HRD := hid hrd
    have HLX := hid (show w.heap.size < w5.heap.size by have := HS5.out; have := HLA.out; omega)
    refine hK.out _ _ (⟨hH.1.below hb hH.1.lt, hH.2.1.elim fun z h => ⟨z, h.1, h.2.below hb h.2.lt⟩, hH.2.2.trans (hb.mono hH.2.2.size)⟩) (fun hH => ?_)
    clear hK K
    try simp only [Act.put, la1, la2, la3, la4, la5, la6]
    refine tk_ (i := 7) (v := .agg (chC ⟨true, m, cm, es⟩ A9 c9)) rfl (Or.inl ⟨by kernel_rfl, fun w' _ => by kernel_rfl⟩) hH ?_
    simp only [Act.put, la1, la2, la3, la4, la5, la6]
    refine rd1 (i := 8) (by kernel_rfl) rfl (fun K hK => ?_)
    obtain ⟨hm8, ⟨z, hz6, hk8⟩, hb8⟩ := hH
    rw [if_pos (by kernel_rfl)]
    refine wp_store_st (.tmp 4) (.tmp 28) rfl HZC.out w.heap.size z (chC ⟨true, m, cm, es⟩ A9 c9) rfl rfl hk8 hz6 rfl (chC_one _ _ _) (fun w9 hr9 hg9 => ?_)
    have hb9 : Below w.heap.size w w9 := hb8.trans (below_grown hg9 (Nat.le_refl _) hb8.size)
    have hrd9 := own_base (own_grownM HRD.out hg9 HLX.out) (Nat.le_of_lt HLX.out)
    refine hK.out _ _ ⟨hm8.grown hg9 (by intro x; have := Option.some.inj x; have := HLT.out; omega), ⟨_, (rfl : (chC ⟨true, m, cm, es⟩ A9 c9).size = 6), hr9⟩, hb9⟩ (fun hH => ?_)
    clear hK K hH
    try simp only [Act.put, la1, la2, la3]
    refine wpAnyH_done (by kernel_rfl) ?_ _
    try simp only [Act.put, la1, la2, la3, la4, la5, la6]
    go_wp2_with fail
    exact bodyPost_ret (v := .agg (chC ⟨true, m, cm, es⟩ A9 c9)) (results_cell_row rfl _ _ w.heap.size 36 (chC ⟨true, m, cm, es⟩ A9 c9) (0, 0) _ rfl (Row.arr (cs := chC ⟨true, m, cm, es⟩ A9 c9) hr9) Tryd.underlying36 rfl HZC.out) rfl ⟨A9, c9, rfl, hc9, hb9, hrd9⟩
theorem choose_any (count : Int) (A : Option Addr) (L : List LP) (n c B : Nat) (w : World) (hr : Lm w B A L) (hf : ∀ x ∈ L, x.1.fits) (hn : n = L.length) (hc : n ≤ c) (hB : B ≤ w.heap.size) (hb : n ≤ 9223372036854775806) (hfd : Fd w) (hmd : Md w) :
    Calls Tryd.prog 7 #[.int .i64 count, .slice A n c] w (CQ w (chooseC count (L.map Prod.fst))) := by
  rw [← choose_eq]
  by_cases hcnt : count = 3 ∨ count = 5
  · exact choose_may count A L n c B w hr hf hn hc hB hb hcnt hfd hmd
  · have e : chsP18 count (L.map Prod.fst) = ch0 := if_neg (fun h => hcnt h.1)
    rw [e]
    exact choose_no count A n c w (by
      unfold mayQ
      rw [Bool.or_eq_false_iff, beq_eq_false_iff_ne, beq_eq_false_iff_ne]
      exact ⟨fun h => hcnt (.inl h), fun h => hcnt (.inr h)⟩)
end Go.Proofs.YteahbalcielhpaaDoor
