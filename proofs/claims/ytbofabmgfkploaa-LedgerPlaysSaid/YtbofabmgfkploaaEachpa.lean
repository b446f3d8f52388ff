/-
  The walk of package event's each, from Ac to texts.
-/
import Derived.Test.YtbofabmgfkploaaEach
namespace Go.Proofs.Ytbofabmgfkploaa
open Go.RowKit
set_option maxRecDepth 10000

set_option maxHeartbeats 1000000 in
theorem eachpa_none (A : Option Addr) (n c : Nat) (w : World) (h : n = 0 ∨ 4 < n) : Calls Try.prog 60 #[.slice A n c, .func (.func 61) #[] #[]] w (LB Sc w ([], false)) := by
  by_cases h0 : n = 0
  · subst h0
    clear h
    go_enter Try.func60, Try.ntmps60
    go_wp2_with fail
    go_ret2
    exact LB_none _ (Below.refl _ _)
  · have h1 : ((n : Int) == 0) = false := beq_eq_false_iff_ne.2 (by omega)
    have h2 : decide (4 < (n : Int)) = true := decide_eq_true (by omega)
    clear h
    go_enter Try.func60, Try.ntmps60
    go_wp2_with fail
    go_ret2
    exact LB_none _ (Below.refl _ _)

set_option maxHeartbeats 1000000 in
theorem eachpa_some (A : Option Addr) (l : List Ac) (n c B : Nat) (w : World) (hr : Rd w B A (rows Ac.cells l)) (hn : n = l.length) (h0 : 0 < n) (h4 : n ≤ 4) (hnc : n ≤ c) (hB : B ≤ w.heap.size) (hok : ∀ x ∈ l, x.ok) :
    Calls Try.prog 60 #[.slice A n c, .func (.func 61) #[] #[]] w (LB Sc w (if l.all (fun x => (askB x).isSome) then (l.map (fun x => (askB x).getD []), true) else ([], false))) := by
  obtain ⟨i0, hi, hz0, hz1, hz2⟩ := info_parts strInfo
  have hlen := rows_len (C := Ac.cells) Ac.len l
  obtain ⟨ga, o, rfl, hga, hcell⟩ := id hr (by intro e; rw [e] at hlen; simp at hlen; omega)
  clear hcell
  have h1 : ((n : Int) == 0) = false := beq_eq_false_iff_ne.2 (by omega)
  have h2 : ¬ 4 < (n : Int) := by omega
  have hXl : (l.map fun x => Sc ((askB x).getD [])).length = n := by rw [List.length_map, hn]
  have hX1 : ∀ r ∈ l.map fun x => Sc ((askB x).getD []), r.length = 1 := by
    intro r hr
    obtain ⟨x, _, rfl⟩ := List.mem_map.1 hr
    rfl
  have hXk : ∀ k (hk : k < l.length), (l.map fun x => Sc ((askB x).getD []))[k]? = some [.string ⟨((askB l[k]).getD []).toArray⟩] := by
    intro k hk
    simp [hk, Sc]
  have hXe : (l.map fun x => Sc ((askB x).getD [])).flatten = rows Sc (l.map fun x => (askB x).getD []) := by simp [rows, Function.comp_def]
  generalize (l.map fun x => Sc ((askB x).getD [])) = XS at *
  have HXL := hid hXl
  have HX1 := hid hX1
  have HXK := hid hXk
  have HXE := hid hXe
  have HR := hid hr
  have HN := hid hn
  have HOK := hid (fun k (hk : k < l.length) => hok l[k] (List.getElem_mem hk))
  have HZ := hid acSize
  obtain ⟨r, hr0⟩ : ∃ r, (if l.all (fun x => (askB x).isSome) then (l.map (fun x => (askB x).getD []), true) else ([], false)) = r := ⟨_, rfl⟩
  rw [hr0]
  have HYES : Hid ((l.all fun x => (askB x).isSome) = true → r = (l.map (fun x => (askB x).getD []), true)) := hid fun h => by rw [← hr0, if_pos h]
  have HNO : Hid ((l.all fun x => (askB x).isSome) = false → r = ([], false)) := hid fun h => by rw [← hr0, if_neg (by rw [h]; decide)]
  clear hr0 hXl hX1 hXk hXe hr hn hok hlen
  go_enter Try.func60, Try.ntmps60
  go_wp2_with (refine wpl_make_big rfl _ _ _ rfl 9 i0 _ [.string ⟨#[]⟩] Try.underlying86 hi hz0 hz1 rfl (Nat.zero_lt_one) _ _ _ _ n rfl rfl ?_ ?_ ?_ ?_ ?_; intro g w1 HG HR1 HG1)
  rotate_left
  · exact hid trivial
  · exact hid trivial
  · exact hid (by omega)
  · exact hid (le_maxLen (by omega))
  have hg : g = w.heap.size := HG.out
  subst hg
  have hb1 : Below w.heap.size w w1 := (Below.refl _ _).grown HG1 (Nat.le_refl _) (by intro k hk; cases hk)
  have HB1 := hid hb1
  have HRW := hid HR1
  clear hb1 HR1 HG1 HG
  go_loopw [23] (fun i wr => ∃ k : Nat, k ≤ n ∧ i = .int .i64 k ∧ Hid (∀ j (hj : j < l.length), j < k → (askB l[j]).isSome = true) ∧ Row wr w.heap.size 9 (part XS [.string ⟨#[]⟩] n k).flatten ∧ Below w.heap.size w wr) (fun i _ => n - (intOf i).toNat)
  case atStart => exact ⟨0, by omega, rfl, hid (by intro j _ hj; omega), by rw [part_zero]; exact HRW.out, HB1.out⟩
  case round =>
    obtain ⟨k, hk, rfl, HP, hrow, hbe⟩ := hrel
    have HBE := hid hbe
    have hlt0 := hrow.lt
    by_cases hlt : k < n
    · have hkl : k < l.length := by rw [← HN.out]; exact hlt
      have hrd := HR.out.below hbe hB
      have hrg := hrd.range Ac.len k hkl
      have HW := hid (puta_any l[k] (HOK.out k hkl))
      have HK := hid (fun (W : World) (hb : Below wr.heap.size wr W) => part_cell (hrow.below hb hrow.lt) HXL.out HX1.out rfl hlt (HXK.out k hkl))
      have HSM : Hid (∀ b, (askB l[k]).isSome = b → b = true → ∀ j (hj : j < l.length), j < k + 1 → (askB l[j]).isSome = true) := hid fun b hb hbt j hj hjk => by
        by_cases e : j = k
        · subst e; rw [hb]; exact hbt
        · exact HP.out j hj (by omega)
      have HFA : Hid (∀ b, (askB l[k]).isSome = b → b = false → (l.all fun x => (askB x).isSome) = false) := hid fun b hb hbf => tail_all hkl (by rw [hb]; exact hbf)
      obtain ⟨bs, bb, hbs, hbb⟩ : ∃ bs bb, (askB l[k]).getD [] = bs ∧ (askB l[k]).isSome = bb := ⟨_, _, rfl, rfl⟩
      have hopt : optB (askB l[k]) = (bs, bb) := by unfold optB; rw [hbs, hbb]
      rw [hopt] at HW
      rw [hbs] at HK
      have HSM2 := hid (HSM.out bb hbb)
      have HFA2 := hid (HFA.out bb hbb)
      have hC4 : (Ac.cells l[k]).length = 4 := Ac.len _
      have hC1 : ((Ac.cells l[k]).all (·.oneCell') = true) := rfl
      clear hopt hbs hbb HSM HFA
      generalize Ac.cells l[k] = X at *
      have HC4 := hid hC4
      have HC1 := hid hC1
      have HRG := hid hrg
      clear hC4 hC1 hrow hbe hrd hrg HRW HB1
      have HBB := hid (show ∀ W2 : World, Below (wr.heap.size + 1) (wr.alloc (.cells ac0.cells.toArray 45)) W2 → True from fun _ _ => trivial)
      cases bb
      all_goals
        go_wp2_with (first
          | (refine wpList_load_mid rfl 45 (.tmp 26) rfl ga (o + k * 4) rfl X _ HRG.out Try.underlying45 rfl (by rw [HC4.out]; exact HZ.out) ?_)
          | (refine wpl_store_st rfl (.tmp 8) (.tmp 27) rfl HZ.out wr.heap.size ac0.cells X rfl rfl (Row.new _ _ _) ?_ (hid rfl) (hid HC4.out) (hid HC1.out); intro w2 hr2 hg2; have hb2 : Below wr.heap.size wr w2 := ((Below.refl _ _).alloc (Nat.le_refl _) _).trans (below_grown hg2 (Nat.le_refl _) (by simp)))
          | (refine wpList_load_row rfl 45 (.tmp 8) rfl wr.heap.size rfl 45 X.toArray (0, 0) _ hr2.arr' Try.underlying45 rfl (by rw [List.size_toArray, HC4.out]; exact HZ.out) ?_)
          | (go_at_call 61; refine (HW.out _).mono ?_; rintro e w3 ⟨rfl, hb3⟩; have hbe3 := hb2.trans (hb3.mono hb2.size); obtain ⟨⟨u0, q1⟩, q2, q3⟩ := HK.out w3 hbe3; have Q3 := hid q3; have HB3 := hid hbe3; clear q3))
      · go_ret2
        rw [HNO.out (HFA2.out (by simp))]
        exact LB_none _ (((HBE.out.trans (HB3.out.mono HBE.out.size))).setCell (Nat.le_refl _) _)
      · exact ⟨⟨k + 1, by omega, by go_num, hid (HSM2.out (by simp)), Q3.out, (HBE.out.trans (HB3.out.mono HBE.out.size)).setCell (Nat.le_refl _) _⟩, by simp [intOf]; omega⟩
    · obtain rfl : k = n := by omega
      rw [part_all HXL.out, HXE.out] at hrow
      have HRR := hid hrow
      have HALL := hid (head_all (f := fun x => (askB x).isSome) (fun j hj => HP.out j hj (by rw [HN.out]; exact hj)))
      clear hrow hbe
      go_wp2_with fail
      go_ret2
      rw [HYES.out HALL.out]
      refine ⟨_, k, ?_, ?_, HRR.out.rd HRR.out.lt, HBE.out, NewA.head _ _⟩
      · show _ = Ending.returned (.tuple #[.slice _ (l.map _).length k, .bool true])
        rw [List.length_map, ← HN.out]
        rfl
      · show (l.map _).length ≤ k
        rw [List.length_map, ← HN.out]
        exact Nat.le_refl _
theorem eachpa_any (A : Option Addr) (l : List Ac) (n c B : Nat) (w : World) (hr : Rd w B A (rows Ac.cells l)) (hn : n = l.length) (hnc : n ≤ c) (hB : B ≤ w.heap.size) (hok : ∀ x ∈ l, x.ok) :
    Calls Try.prog 60 #[.slice A n c, .func (.func 61) #[] #[]] w (LB Sc w (eachP askB l)) := by
  unfold eachP
  rw [← hn]
  by_cases h : n = 0 ∨ 4 < n
  · rw [if_pos h]
    exact eachpa_none A n c w h
  · rw [if_neg h]
    exact eachpa_some A l n c B w hr hn (by omega) (by omega) hnc hB hok
end Go.Proofs.Ytbofabmgfkploaa
