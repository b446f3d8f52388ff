/-
  The walk of ChooseTurns.
-/
import Derived.Test.YteahbalcielhpaaDoorM27
import Derived.Test.YteahbalcielhpaaDoorM28
import Derived.Test.YteahbalcielhpaaDoorM17
import Derived.BigQuiet
import Derived.Deep.QuietTactic
namespace Go.Proofs.YteahbalcielhpaaDoor
open Go.RowKit
set_option maxRecDepth 10000

set_option maxHeartbeats 4000000 in
theorem same18_any (x : Ch) (A A' : Option Addr) (c c' B : Nat) (w : World) (hr : Rd w B A (rws enC x.es)) (hr' : Rd w B A' (rws enC x.es)) (hc : x.es.length ≤ c) (hc' : x.es.length ≤ c') (hB : B ≤ w.heap.size) (hb : x.es.length ≤ 100) :
    Calls Tryd.prog 8 #[.agg (chC x A c), .agg (chC x A' c')] w (VE w (.bool true)) := by
  have HZK := hid msize
  have HB0 : Hid (Below w.heap.size w ((w.alloc (.cells (chC x A c) 36)).alloc (.cells (chC x A' c') 36))) := hid (((Below.refl _ _).alloc (Nat.le_refl _) _).alloc (by simp) _)
  have R1 : Hid (Row ((w.alloc (.cells (chC x A c) 36)).alloc (.cells (chC x A' c') 36)) w.heap.size 36 (chC x A c).toList) := hid ((Row.new _ _ _).alloc _)
  have R2 : Hid (Row ((w.alloc (.cells (chC x A c) 36)).alloc (.cells (chC x A' c') 36)) (w.heap.size + 1) 36 (chC x A' c').toList) := hid (by have h := Row.new (w.alloc (.cells (chC x A c) 36)) 36 (chC x A' c'); rw [World.size_alloc] at h; exact h)
  have HS := hid (samee_any A A' x.es x.es x.es.length x.es.length c c' B _ (hr.below HB0.out hB) (hr'.below HB0.out hB) rfl rfl hc hc' (by simp; omega) (by omega) (by omega))
  rw [decide_eq_true rfl] at HS
  have a0 := R1.out.cell 0
  have a4 := R1.out.cell 4
  have a5 := R1.out.cell 5
  have b0 := R2.out.cell 0
  have b4 := R2.out.cell 4
  have b5 := R2.out.cell 5
  change _ = some (Value.bool x.ready) at a0
  change _ = some (Value.int .i64 x.commit) at a4
  change _ = some (Value.slice A x.es.length c) at a5
  change _ = some (Value.bool x.ready) at b0
  change _ = some (Value.int .i64 x.commit) at b4
  change _ = some (Value.slice A' x.es.length c') at b5
  have HG1 : Hid ((((w.alloc (.cells (chC x A c) 36)).alloc (.cells (chC x A' c') 36))).rangeAt w.heap.size 1 x.check.cells.toList) := hid fun j v hv => by
    rw [R1.out.cell]
    match j, hv with
    | 0, hv => exact hv
    | 1, hv => exact hv
    | 2, hv => exact hv
    | j + 3, hv => exact absurd (List.getElem?_eq_some_iff.1 hv).1 (by simp [Mk.cells])
  have HG2 : Hid ((((w.alloc (.cells (chC x A c) 36)).alloc (.cells (chC x A' c') 36))).rangeAt (w.heap.size + 1) 1 x.check.cells.toList) := hid fun j v hv => by
    rw [R2.out.cell]
    match j, hv with
    | 0, hv => exact hv
    | 1, hv => exact hv
    | 2, hv => exact hv
    | j + 3, hv => exact absurd (List.getElem?_eq_some_iff.1 hv).1 (by simp [Mk.cells])
  obtain ⟨r, m, cm, es⟩ := x
  simp only at a0 a4 a5 b0 b4 b5 HG1 HG2 HS
  have HEQ : Hid (decide (m = m) = true) := hid (decide_eq_true rfl)
  generalize chC ⟨r, m, cm, es⟩ A c = C1 at *
  generalize chC ⟨r, m, cm, es⟩ A' c' = C2 at *
  clear hr hr' hc hc' hb R1 R2
  cases r
  all_goals
    go_enter Tryd.func8, Tryd.ntmps8
    go_wp2_with (first
          | ((with_reducible show wpList _ _ _ ({ dst := some 12, op := _, type := _, pos := _, after := _, guard := _ } :: _) _ _); refine wpl_load_midw rfl 27 (.tmp 11) rfl w.heap.size (1) rfl (m.cells.toList) _ (HG1.out) Tryd.underlying27 rfl (by exact HZK.out) ?_)
          | ((with_reducible show wpList _ _ _ ({ dst := some 14, op := _, type := _, pos := _, after := _, guard := _ } :: _) _ _); refine wpl_load_midw rfl 27 (.tmp 13) rfl (w.heap.size + 1) (1) rfl (m.cells.toList) _ (HG2.out) Tryd.underlying27 rfl (by exact HZK.out) ?_)
          | ((with_reducible show wpList _ _ _ ({ dst := some 15, op := _, type := _, pos := _, after := _, guard := _ } :: _) _ _); refine wpl_eqm rfl m m true (.tmp 12) (.tmp 14) _ rfl rfl rfl HEQ ?_)
          | (go_at_call 20; refine (HS.out).mono ?_; rintro e w1 ⟨rfl, hb1⟩))
    go_ret
    exact ⟨rfl, HB0.out.trans (hb1.mono HB0.out.size)⟩
/-! ### turned -/
def rotQ (L : List LP) (t k : Nat) : List LP := (List.range k).filterMap fun i => L[(i + t) % L.length]?
theorem rotQ_snoc (L : List LP) (t k : Nat) (h : (k + t) % L.length < L.length) : rotQ L t (k + 1) = rotQ L t k ++ [L[(k + t) % L.length]] := by
  unfold rotQ
  rw [List.range_succ, List.filterMap_append, List.filterMap_cons, List.filterMap_nil, List.getElem?_eq_getElem h]
theorem rotQ_len (L : List LP) (t : Nat) (h : 0 < L.length) : ∀ k, (rotQ L t k).length = k
  | 0 => rfl
  | k + 1 => by
    rw [rotQ_snoc L t k (Nat.mod_lt _ h), List.length_append, rotQ_len L t h k]
    rfl
theorem rotQ_mem (L : List LP) (t : Nat) (ht : t < L.length) (x : LP) : x ∈ L ↔ x ∈ rotQ L t L.length := by
  unfold rotQ
  rw [List.mem_filterMap]
  constructor
  · intro hx
    obtain ⟨j, hj, rfl⟩ := List.getElem_of_mem hx
    by_cases h : t ≤ j
    · refine ⟨j - t, List.mem_range.2 (by omega), ?_⟩
      rw [Nat.sub_add_cancel h, Nat.mod_eq_of_lt hj, List.getElem?_eq_getElem hj]
    · refine ⟨j + L.length - t, List.mem_range.2 (by omega), ?_⟩
      rw [Nat.sub_add_cancel (by omega), Nat.add_mod_right, Nat.mod_eq_of_lt hj, List.getElem?_eq_getElem hj]
  · rintro ⟨i, -, hi⟩
    exact List.mem_of_getElem? hi
theorem choose_none (count : Int) : (chooseC count []).ready = false := by
  have e : chooseC count [] = ch0 := by
    refine if_neg ?_
    rintro ⟨hc, hd⟩
    rcases hc with rfl | rfl <;> exact absurd hd (by decide)
  rw [e]
  rfl
theorem turned_same (count : Int) (L : List LP) (t : Nat) (ht : t < L.length) (hd : ∀ i (hi : i < L.length) k (hk : k < i), L[i].1.frm ≠ L[k].1.frm) : chooseC count ((rotQ L t L.length).map Prod.fst) = chooseC count (L.map Prod.fst) := by
  refine (choose_same ?_ ?_ count).symm
  · intro a ha b hb e
    obtain ⟨i, hi, rfl⟩ := List.getElem_of_mem ha
    obtain ⟨j, hj, rfl⟩ := List.getElem_of_mem hb
    simp only [List.length_map] at hi hj
    rw [List.getElem_map, List.getElem_map] at e ⊢
    rcases Nat.lt_trichotomy i j with h | h | h
    · exact absurd e.symm (hd j hj i h)
    · subst h; rfl
    · exact absurd e (hd i hi j h)
  · intro m
    rw [List.mem_map, List.mem_map]
    constructor
    · rintro ⟨x, hx, e⟩; exact ⟨x, (rotQ_mem L t ht x).1 hx, e⟩
    · rintro ⟨x, hx, e⟩; exact ⟨x, (rotQ_mem L t ht x).2 hx, e⟩
theorem chooseC_len (count : Int) (l : List Ms) : (chooseC count l).es.length ≤ 8 := by
  rcases choose_cases count l with e | ⟨_, _, es, hg, e⟩
  · rw [e]; exact Nat.zero_le _
  · rw [e]
    exact (go_chain (fun m hm => (logs_ok hm).2) _ 8 _ es hg).1
set_option maxHeartbeats 8000000 in
theorem turns_law (count : Int) (A : Option Addr) (L : List LP) (n c : Nat) (turn : Int) (w : World) (hr : Lm w w.heap.size A L) (hf : ∀ x ∈ L, x.1.fits) (hn : n = L.length) (hc : n ≤ c) (hb : n ≤ 9223372036854775807) (hfd : Fd w) (hmd : Md w) :
    Calls Tryd.prog 3 #[.int .i64 count, .slice A n c, .int .i64 turn] w (Yes w) := by
  have HA := hid (awake18_any w hfd hmd)
  have HGR := hid (fun (W : World) (hW : Below w.heap.size w W) => great_any A L n c w.heap.size W (hr.below hW (Nat.le_refl _)) hn hc hb)
  have HR : Hid (∀ W, Below w.heap.size w W → Lm W w.heap.size A L) := hid fun W hW => hr.below hW (Nat.le_refl _)
  have HN := hid hn
  have HCH := hid (fun (hn12 : n ≤ 12) (W : World) (hW : Below w.heap.size w W) => choose_any count A L n c w.heap.size W (hr.below hW (Nat.le_refl _)) hf hn hc hW.size (by omega) (hfd.below hW hfd.1) (hmd.below hW hmd.1))
  have HCO := hid (fun (M : List LP) (A1 : Option Addr) (c1 : Nat) (W : World) (hM : Lm W W.heap.size A1 M) (hfM : ∀ x ∈ M, x.1.fits) (hm12 : M.length ≤ 12) (hc1 : M.length ≤ c1) (hW : Below w.heap.size w W) => choose_any count A1 M M.length c1 W.heap.size W hM hfM rfl hc1 (Nat.le_refl _) (by omega) (hfd.below hW hfd.1) (hmd.below hW hmd.1))
  have HFI := hid hf
  obtain ⟨i0, hi, hz0, hz1, hz2⟩ := info_parts infoMs
  have HZS := hid mssize
  have HNX : Hid (∀ (W : World) (X : List Value), Hid (Rd (W.alloc (.cells X.toArray 34)) (W.heap.size + 1) (some ⟨W.heap.size, 0, none⟩) X)) := hid fun W X => hid (new_rdM 34 W X)
  clear hr hf hn hfd hmd
  by_cases h12 : n ≤ 12
  case neg =>
    clear HCH HCO
    go_enter Tryd.func3, Tryd.ntmps3
    go_wp2_with (first
          | (go_at_call 5; refine (HA.out).mono ?_; rintro x w1 ⟨rfl, hb⟩; have HB1 := hid hb; clear hb)
          | (go_at_call 6; refine (HGR.out _ HB1.out).mono ?_; rintro x w2 ⟨b, rfl, hb12, rfl⟩))
    · go_ret
      exact ⟨rfl, HB1.out⟩
    · exact absurd (hb12 (by assumption)) h12
  have HCX := hid (HCH.out h12)
  have hn12 : (n : Int) ≤ 12 := by omega
  go_enter Tryd.func3, Tryd.ntmps3
  go_wp2_with (first
      | (go_at_call 5; refine (HA.out).mono ?_; rintro x w1 ⟨rfl, hb⟩; have HB1 := hid hb; clear hb)
      | (go_at_call 6; refine (HGR.out _ HB1.out).mono ?_; rintro x w2 ⟨b, rfl, hb12, rfl⟩))
  · go_ret
    exact ⟨rfl, HB1.out⟩
  have hbf : b = false := by assumption
  subst hbf
  have hbq : ∀ h : false = false, True := fun _ => trivial
  clear hb12 hbq
  go_loopw [7] (fun i wr => ∃ k : Nat, k ≤ n ∧ i = .int .i64 (k : Int) ∧ Hid (∀ i (hi : i < L.length) j (hj : j < i), i < k → L[i].1.frm ≠ L[j].1.frm) ∧ Hid (Below w.heap.size w wr)) (fun i _ => n - (intOf i).toNat)
  case atStart => exact ⟨0, by omega, rfl, hid (fun i hi j hj h => absurd h (Nat.not_lt_zero _)), HB1⟩
  case round =>
    clear HB1
    obtain ⟨k, hk, rfl, HD, HBE⟩ := hrel
    by_cases hlt : k < n
    · have hkl : k < L.length := by rw [← HN.out]; exact hlt
      have hi1 : (k : Int) < (n : Int) := by omega
      have hi0 : (0 : Int) ≤ (k : Int) := by omega
      go_wp2_with fail
      go_loopw [8] (fun i wr => ∃ j : Nat, j ≤ k ∧ i = .int .i64 (j : Int) ∧ Hid (∀ u (hu : u < k), u < j → L[k].1.frm ≠ (L[u]'(by omega)).1.frm) ∧ Hid (Below w.heap.size w wr)) (fun i _ => k - (intOf i).toNat)
      case atStart => exact ⟨0, by omega, rfl, hid (fun u hu h => absurd h (Nat.not_lt_zero _)), HBE⟩
      case round =>
        clear HBE
        obtain ⟨j, hj, rfl, HDK, HBE⟩ := hrel
        by_cases hlj : j < k
        · have hjl : j < L.length := by omega
          obtain ⟨g, o, rfl, -, hrk⟩ := (HR.out wr HBE.out).at_ k hkl
          obtain ⟨g', o', e', -, hrj⟩ := (HR.out wr HBE.out).at_ j hjl
          cases e'
          have ck : wr.cell? ⟨g, o + k * 33 + 1, none⟩ = some (.int .i64 L[k].1.frm) := hrk 1 _ rfl
          have cj : wr.cell? ⟨g, o + j * 33 + 1, none⟩ = some (.int .i64 L[j].1.frm) := hrj 1 _ rfl
          have HDN : Hid (L[k].1.frm ≠ L[j].1.frm → ∀ u (hu : u < k), u < j + 1 → L[k].1.frm ≠ (L[u]'(by omega)).1.frm) := hid fun h u hu hu1 => by
            by_cases e : u = j
            · subst e; exact h
            · exact HDK.out u hu (by omega)
          have hj1 : (j : Int) < (k : Int) := by omega
          have hj0 : (0 : Int) ≤ (j : Int) := by omega
          have hjn : (j : Int) < (n : Int) := by omega
          clear hrk hrj
          obtain ⟨fk, hfk⟩ : ∃ x, L[k].1.frm = x := ⟨_, rfl⟩
          obtain ⟨fj, hfj⟩ : ∃ x, L[j].1.frm = x := ⟨_, rfl⟩
          rw [hfk] at ck
          rw [hfj] at cj
          have HFK := hid hfk
          have HFJ := hid hfj
          clear hfk hfj
          cases heq : (fk == fj)
          case true =>
            go_wp2_with fail
            go_quiet (fail)
            go_wp2_with fail
            go_ret
            exact ⟨rfl, belowN HBE.out _⟩
          case false =>
            have HNE : Hid (L[k].1.frm ≠ L[j].1.frm) := hid (by rw [HFK.out, HFJ.out]; intro e; rw [e] at heq; simp at heq)
            go_wp2_with fail
            go_quiet (fail)
            go_wp2_with fail
            go_roundw
            case rel => exact ⟨j + 1, by omega, by go_num, hid (HDN.out HNE.out), hid (belowN HBE.out _)⟩
            case measure => simp [intOf]; omega
        · obtain rfl : j = k := by omega
          have HD2 : Hid (∀ i (hi : i < L.length) u (hu : u < i), i < j + 1 → L[i].1.frm ≠ L[u].1.frm) := hid fun i hi u hu h => by
            by_cases e : i = j
            · subst e; exact HDK.out u hu hu
            · exact HD.out i hi u hu (by omega)
          go_wp2_with fail
          go_roundw
          case rel => exact ⟨j + 1, by omega, by go_num, HD2, HBE⟩
          case measure => simp [intOf]; omega
    · obtain rfl : k = n := by omega
      have HD2 : Hid (∀ i (hi : i < L.length) u (hu : u < i), L[i].1.frm ≠ L[u].1.frm) := hid fun i hi u hu => HD.out i hi u hu (by rw [HN.out]; exact hi)
      clear HD HGR HA
      by_cases h0 : k = 0
      · subst h0
        have hL : L = [] := List.eq_nil_of_length_eq_zero HN.out.symm
        have HCE := hid (HCX.out wr HBE.out)
        rw [hL] at HCE
        have hrdy := choose_none count
        change Hid (Calls _ _ _ _ (CQ wr (chooseC count []))) at HCE
        generalize chooseC count [] = X at *
        obtain ⟨r, m, cm, es⟩ := X
        simp only at hrdy
        subst hrdy
        clear HCX HCH HCO HD2 hL HR HFI HN
        go_wp2_with (first
          | (go_at_call 7; refine HCE.out.mono ?_; rintro x w2 ⟨A1, c1, rfl, -, hb2, -⟩)
          | ((with_reducible show wpList _ _ _ ({ dst := some 43, op := _, type := _, pos := _, after := _, guard := _ } :: _) _ _); refine wpl_run rfl (.bool false) (fun _ => by kernel_rfl) ?_))
        go_ret
        exact ⟨rfl, HBE.out.trans (hb2.mono HBE.out.size)⟩
      · have hkp : 0 < k := by omega
        obtain ⟨t, ht⟩ : ∃ t, t = un turn % k := ⟨_, rfl⟩
        have htk : t < k := by rw [ht]; exact Nat.mod_lt _ hkp
        have hcut : (IntKind.u64.wrap turn).tmod (k : Int) = (t : Int) := by
          rw [un_wrap, Int.tmod_eq_emod_of_nonneg (by omega), ← Int.natCast_emod, ← ht]
        have huk : IntKind.u64.wrap (k : Int) = (k : Int) := by rw [un_wrap, un_in (by omega) (by omega)]; omega
        have hut : IntKind.u64.wrap (t : Int) = (t : Int) := by rw [un_wrap, un_in (by omega) (by omega)]; omega
        have ht0 : (0 : Int) ≤ (t : Int) := by omega
        have htk' : (t : Int) < (k : Int) := by omega
        have hk0 : ¬ ((k : Int) = 0) := by omega
        have HTS := hid (turned_same count L t (by rw [← HN.out]; exact htk) HD2.out)
        have HRM := hid (fun x => (rotQ_mem L t (by rw [← HN.out]; exact htk) x).2)
        have HRL := hid (rotQ_len L t (by rw [← HN.out]; exact hkp))
        have HRS := hid (fun j => rotQ_snoc L t j)
        have HO0 : Hid ((wr.alloc (.cells #[] 34)).ownsRow wr.heap.size 34 33 (.slice (some ⟨wr.heap.size, 0, none⟩) 0 0) 0 []) := hid (own_emptyM (Row.new wr _ _) (Nat.le_refl _))
        obtain ⟨wL, hwL⟩ : ∃ W, W = wr := ⟨wr, rfl⟩
        subst hwL
        have HB2 : Hid (Below w.heap.size w (wL.alloc (.cells #[] 34))) := hid (HBE.out.alloc HBE.out.size _)
        have HWL := hid (show Below wL.heap.size wL (wL.alloc (.cells #[] 34)) from (Below.refl _ _).alloc (Nat.le_refl _) _)
        clear ht HD2 h0 hkp hlt
        go_wp2_with fail
        go_loopw [9, 10] (fun v i wr => ∃ j : Nat, j ≤ k ∧ i = .int .i64 (j : Int) ∧ Hid (wr.ownsRow wL.heap.size 34 33 v (rotQ L t j).length (rws lpC (rotQ L t j))) ∧ Hid (Below wL.heap.size wL wr)) (fun _ i _ => k - (intOf i).toNat)
        case atStart => exact ⟨0, by omega, rfl, HO0, HWL⟩
        case round =>
          clear HO0 HB2 HWL hcut huk hut
          obtain ⟨j, hj, rfl, HO, HW⟩ := hrel
          obtain ⟨A1, c1, rfl, hnc, hrd⟩ := own_rdM HO.out
          have HBX := hid (HBE.out.trans (HW.out.mono HBE.out.size))
          have HJL := hid (HRL.out j)
          by_cases hlj : j < k
          · obtain ⟨q, hq⟩ : ∃ q, q = (j + t) % k := ⟨_, rfl⟩
            have hqk : q < k := by rw [hq]; exact Nat.mod_lt _ (by omega)
            have hql : q < L.length := by rw [← HN.out]; exact hqk
            have hqq : (j + t) % L.length = q := by rw [← HN.out, hq]
            have htm : ((j : Int) + (t : Int)).tmod (k : Int) = (q : Int) := by
              rw [Int.tmod_eq_emod_of_nonneg (by omega), hq, Int.natCast_emod]
              rfl
            have HSN := hid (HRS.out j (by rw [hqq]; exact hql))
            have hgq : L[(j + t) % L.length]'(by rw [hqq]; exact hql) = L[q] := by congr 1
            rw [hgq] at HSN
            obtain ⟨g, o, rfl, -, hrg⟩ := (HR.out wr HBX.out).at_ q hql
            have HRG : Hid (wr.rangeAt g (o + q * 33) (Array.toList (L[q].1.cells L[q].2))) := hid hrg
            generalize L[q] = X at *
            have hj1 : (j : Int) < (k : Int) := by omega
            have hj0 : (0 : Int) ≤ (j : Int) := by omega
            have hq1 : (q : Int) < (k : Int) := by omega
            have hq0 : (0 : Int) ≤ (q : Int) := by omega
            have HZ : Hid (wL.heap.size ≤ wr.heap.size) := hid HW.out.size
            have h63 : (rotQ L t j).length + 1 ≤ 13 := by rw [HJL.out]; omega
            clear hrg hql hqq hgq hq hrd
            go_wp2_with (first
              | ((with_reducible show wpList _ _ _ ({ dst := some 68, op := _, type := _, pos := _, after := _, guard := _ } :: _) _ _); refine wpList_load_mid rfl 34 (.tmp 67) rfl g (o + q * 33) rfl (Array.toList (X.1.cells X.2)) _ (HRG.out) Tryd.underlying34 rfl (by exact HZS.out) ?_)
              | (refine wpl_slice1M rfl 22 34 (.tmp 68) rfl i0 _ 33 Tryd.underlying22 hi hz0 hz1 (by decide) (by decide) (Array.toList (X.1.cells X.2)) rfl rfl ?_)
              | (refine wpl_append rfl (.tmp 59) (.tmp 69) 22 rfl wL.heap.size 34 i0 _ 33 312 Tryd.underlying22 hi hz0 hz1 hz2 rfl (by omega) (.slice A1 (rotQ L t j).length c1) (rotQ L t j).length _ rfl (own_allocM HO.out _) (wr.heap.size + 1) (some ⟨wr.heap.size, 0, none⟩) 1 1 (Array.toList (X.1.cells X.2)) rfl ?_ (HNX.out wr (Array.toList (X.1.cells X.2))) (hid rfl) (hid (by have := msc_one X.1 X.2; rw [Array.all_eq_true'] at this; intro u hu; exact this u (by simpa using hu))) (hid (le_maxLen (Nat.le_trans h63 (by decide)))) (hid (by omega)) (hid (by have := HZ.out; simp; omega)); intro v6 w6 hown6 hb6 hg6; have HO6 := hid hown6; have HB6 := hid ((HW.out.alloc HW.out.size (.cells (Array.toList (X.1.cells X.2)).toArray 34)).trans hb6); clear hown6 hb6 hg6))
            go_roundw
            case rel =>
              refine ⟨j + 1, by omega, by go_num, ?_, HB6⟩
              refine hid ?_
              rw [HSN.out, rws_app, List.length_append]
              exact HO6.out
            case measure => simp [intOf]; omega
          · obtain rfl : j = k := by omega
            have hLn : j = L.length := HN.out
            have HLM : Hid (Lm wr wr.heap.size A1 (rotQ L t j)) := hid ⟨hrd, fun x hx => ((HR.out wr HBX.out).pl x (HRM.out x (by rw [← hLn]; exact hx))).le HBX.out.size⟩
            have HC1 := hid (HCX.out wr HBX.out)
            have HC2 := hid (fun (W : World) (hW : Below wr.heap.size wr W) => HCO.out (rotQ L t j) A1 c1 W ((HLM.out.below hW (Nat.le_refl _)).le hW.size) (fun x hx => HFI.out x (HRM.out x (by rw [← hLn]; exact hx))) (by rw [HJL.out]; exact h12) hnc (HBX.out.trans (hW.mono HBX.out.size)))
            rw [show rotQ L t j = rotQ L t L.length by rw [hLn], HTS.out, ← hLn] at HC2
            have HJ2 := HJL.out
            rw [HJ2] at HC2
            have HLE := hid (chooseC_len count (L.map Prod.fst))
            generalize chooseC count (L.map Prod.fst) = X at *
            have HSM := hid (fun (A2 A3 : Option Addr) (c2 c3 : Nat) (W : World) (h2 : Rd W W.heap.size A2 (rws enC X.es)) (h3 : Rd W W.heap.size A3 (rws enC X.es)) (hc2 : X.es.length ≤ c2) (hc3 : X.es.length ≤ c3) => same18_any X A2 A3 c2 c3 W.heap.size W h2 h3 hc2 hc3 (Nat.le_refl _) (by have := HLE.out; omega))
            rw [HJ2]
            clear HCX HCH HCO HTS HRM HRL HRS HO HLM HJL HJ2 hrd hLn HLE HR HFI HN
            go_wp2_with (first
              | ((have zz := HD3); clear zz; go_at_call 7; refine (HC2.out _ HD3.out).mono ?_; rintro x w4 ⟨A3, c3, rfl, hc3, hb4, hown4⟩; have HE4 := hid (HE3.out.trans (hb4.mono HE3.out.size)); have hrd3 := hid (hrd2.out.below hb4 (Nat.le_refl _)); obtain ⟨A4, c4, e4, -, hrd4⟩ := own_rdM hown4; cases e4; have hrd4h := hid hrd4; have HS4 := hid hb4.size; clear hb4 hown4 hrd4)
              | (go_at_call 7; refine HC1.out.mono ?_; rintro x w3 ⟨A2, c2, rfl, hc2, hb3, hown3⟩; have HD3 := hid hb3; have HE3 := hid (HBX.out.trans (hb3.mono HBX.out.size)); obtain ⟨A5, c5, e5, -, hrd5⟩ := own_rdM hown3; cases e5; have hrd2 := hid hrd5; clear hb3 hown3 hrd5)
              | (go_at_call 8; refine (HSM.out _ _ _ _ _ (Rd_le hrd3.out HS4.out) hrd4h.out hc2 hc3).mono ?_; rintro x w5 ⟨rfl, hb5⟩; have HE5 := hid (HE4.out.trans (hb5.mono HE4.out.size)); clear hb5))
            go_ret
            exact ⟨rfl, HE5.out⟩
end Go.Proofs.YteahbalcielhpaaDoor
