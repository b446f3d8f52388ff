/-
  The walk of package event's each, from Nat to texts.
-/
import Derived.Test.YtbofabmgfkploaaEach
namespace Go.Proofs.Ytbofabmgfkploaa
open Go.RowKit
set_option maxRecDepth 10000

set_option maxHeartbeats 1000000 in
theorem eachpi_none (A : Option Addr) (n c : Nat) (w : World) (h : n = 0 ∨ 4 < n) : Calls Try.prog 52 #[.slice A n c, .func (.func 53) #[] #[]] w (LB Sc w ([], false)) := by
  by_cases h0 : n = 0
  · subst h0
    clear h
    go_enter Try.func52, Try.ntmps52
    go_wp2_with fail
    go_ret2
    exact LB_none _ (Below.refl _ _)
  · have h1 : ((n : Int) == 0) = false := beq_eq_false_iff_ne.2 (by omega)
    have h2 : decide (4 < (n : Int)) = true := decide_eq_true (by omega)
    clear h
    go_enter Try.func52, Try.ntmps52
    go_wp2_with fail
    go_ret2
    exact LB_none _ (Below.refl _ _)

set_option maxHeartbeats 1000000 in
theorem eachpi_some (A : Option Addr) (l : List Nat) (n c B : Nat) (w : World) (hr : Rd w B A (rows Ic l)) (hn : n = l.length) (h0 : 0 < n) (h4 : n ≤ 4) (hnc : n ≤ c) (hB : B ≤ w.heap.size) (hok : ∀ x ∈ l, U64 x) :
    Calls Try.prog 52 #[.slice A n c, .func (.func 53) #[] #[]] w (LB Sc w (if l.all (fun x => (idB x).isSome) then (l.map (fun x => (idB x).getD []), true) else ([], false))) := by
  obtain ⟨i0, hi, hz0, hz1, hz2⟩ := info_parts strInfo
  have hlen := rows_len (C := Ic) Ic_len l
  obtain ⟨ga, o, rfl, hga, hcell⟩ := id hr (by intro e; rw [e] at hlen; simp at hlen; omega)
  clear hcell
  have h1 : ((n : Int) == 0) = false := beq_eq_false_iff_ne.2 (by omega)
  have h2 : ¬ 4 < (n : Int) := by omega
  have hXl : (l.map fun x => Sc ((idB x).getD [])).length = n := by rw [List.length_map, hn]
  have hX1 : ∀ r ∈ l.map fun x => Sc ((idB x).getD []), r.length = 1 := by
    intro r hr
    obtain ⟨x, _, rfl⟩ := List.mem_map.1 hr
    rfl
  have hXk : ∀ k (hk : k < l.length), (l.map fun x => Sc ((idB x).getD []))[k]? = some [.string ⟨((idB l[k]).getD []).toArray⟩] := by
    intro k hk
    simp [hk, Sc]
  have hXe : (l.map fun x => Sc ((idB x).getD [])).flatten = rows Sc (l.map fun x => (idB x).getD []) := by simp [rows, Function.comp_def]
  generalize (l.map fun x => Sc ((idB x).getD [])) = XS at *
  have HXL := hid hXl
  have HX1 := hid hX1
  have HXK := hid hXk
  have HXE := hid hXe
  have HR := hid hr
  have HN := hid hn
  have HOK := hid (fun k (hk : k < l.length) => hok l[k] (List.getElem_mem hk))
  obtain ⟨r, hr0⟩ : ∃ r, (if l.all (fun x => (idB x).isSome) then (l.map (fun x => (idB x).getD []), true) else ([], false)) = r := ⟨_, rfl⟩
  rw [hr0]
  have HYES : Hid ((l.all fun x => (idB x).isSome) = true → r = (l.map (fun x => (idB x).getD []), true)) := hid fun h => by rw [← hr0, if_pos h]
  have HNO : Hid ((l.all fun x => (idB x).isSome) = false → r = ([], false)) := hid fun h => by rw [← hr0, if_neg (by rw [h]; decide)]
  clear hr0 hXl hX1 hXk hXe hr hn hok hlen
  go_enter Try.func52, Try.ntmps52
  go_wp2_with (refine wpl_make_big rfl _ _ _ rfl 9 i0 _ [.string ⟨#[]⟩] Try.underlying86 hi hz0 hz1 rfl (Nat.zero_lt_one) _ _ _ _ n rfl rfl ?_ ?_ ?_ ?_ ?_; intro g w1 HG HR1 HG1)
  rotate_left
  · exact hid trivial
  · exact hid trivial
  · exact hid (by omega)
  · exact hid (le_maxLen (by omega))
  have hg : g = w.heap.size := HG.out
  subst hg
  have hb1 : Below w.heap.size w w1 := (Below.refl _ _).grown HG1 (Nat.le_refl _) (by intro k hk; cases hk)
  have HB1 := hid hb1
  have HRW := hid HR1
  clear hb1 HR1 HG1 HG
  go_loopw [23] (fun i wr => ∃ k : Nat, k ≤ n ∧ i = .int .i64 k ∧ Hid (∀ j (hj : j < l.length), j < k → (idB l[j]).isSome = true) ∧ Row wr w.heap.size 9 (part XS [.string ⟨#[]⟩] n k).flatten ∧ Below w.heap.size w wr) (fun i _ => n - (intOf i).toNat)
  case atStart => exact ⟨0, by omega, rfl, hid (by intro j _ hj; omega), by rw [part_zero]; exact HRW.out, HB1.out⟩
  case round =>
    obtain ⟨k, hk, rfl, HP, hrow, hbe⟩ := hrel
    have HBE := hid hbe
    have hlt0 := hrow.lt
    by_cases hlt : k < n
    · have hkl : k < l.length := by rw [← HN.out]; exact hlt
      have hrd := HR.out.below hbe hB
      have hrg := hrd.range Ic_len k hkl
      have HW := hid (puti_any l[k] (HOK.out k hkl))
      have HK := hid (fun (W : World) (hb : Below wr.heap.size wr W) => part_cell (hrow.below hb hrow.lt) HXL.out HX1.out rfl hlt (HXK.out k hkl))
      have HSM : Hid (∀ b, (idB l[k]).isSome = b → b = true → ∀ j (hj : j < l.length), j < k + 1 → (idB l[j]).isSome = true) := hid fun b hb hbt j hj hjk => by
        by_cases e : j = k
        · subst e; rw [hb]; exact hbt
        · exact HP.out j hj (by omega)
      have HFA : Hid (∀ b, (idB l[k]).isSome = b → b = false → (l.all fun x => (idB x).isSome) = false) := hid fun b hb hbf => tail_all hkl (by rw [hb]; exact hbf)
      obtain ⟨bs, bb, hbs, hbb⟩ : ∃ bs bb, (idB l[k]).getD [] = bs ∧ (idB l[k]).isSome = bb := ⟨_, _, rfl, rfl⟩
      have hopt : optB (idB l[k]) = (bs, bb) := by unfold optB; rw [hbs, hbb]
      rw [hopt] at HW
      rw [hbs] at HK
      have HSM2 := hid (HSM.out bb hbb)
      have HFA2 := hid (HFA.out bb hbb)
      have hcl : wr.cell? ⟨ga, o + k, none⟩ = some (.int .u64 (l[k] : Int)) := by
        have := hrg 0 _ rfl
        rw [Nat.mul_one] at this
        exact this
      clear hopt hbs hbb HSM HFA
      generalize l[k] = x at *
      clear hrow hbe hrd hrg HRW HB1
      cases bb
      all_goals
        go_wp2_with (go_at_call 53; refine (HW.out _).mono ?_; rintro e w3 ⟨rfl, hbe3⟩; obtain ⟨⟨u0, q1⟩, q2, q3⟩ := HK.out w3 hbe3; have Q3 := hid q3; have HB3 := hid hbe3; clear q3)
      · go_ret2
        rw [HNO.out (HFA2.out (by simp))]
        exact LB_none _ (((HBE.out.trans (HB3.out.mono HBE.out.size))).setCell (Nat.le_refl _) _)
      · exact ⟨⟨k + 1, by omega, by go_num, hid (HSM2.out (by simp)), Q3.out, (HBE.out.trans (HB3.out.mono HBE.out.size)).setCell (Nat.le_refl _) _⟩, by simp [intOf]; omega⟩
    · obtain rfl : k = n := by omega
      rw [part_all HXL.out, HXE.out] at hrow
      have HRR := hid hrow
      have HALL := hid (head_all (f := fun x => (idB x).isSome) (fun j hj => HP.out j hj (by rw [HN.out]; exact hj)))
      clear hrow hbe
      go_wp2_with fail
      go_ret2
      rw [HYES.out HALL.out]
      refine ⟨_, k, ?_, ?_, HRR.out.rd HRR.out.lt, HBE.out, NewA.head _ _⟩
      · show _ = Ending.returned (.tuple #[.slice _ (l.map _).length k, .bool true])
        rw [List.length_map, ← HN.out]
        rfl
      · show (l.map _).length ≤ k
        rw [List.length_map, ← HN.out]
        exact Nat.le_refl _
theorem eachpi_any (A : Option Addr) (l : List Nat) (n c B : Nat) (w : World) (hr : Rd w B A (rows Ic l)) (hn : n = l.length) (hnc : n ≤ c) (hB : B ≤ w.heap.size) (hok : ∀ x ∈ l, U64 x) :
    Calls Try.prog 52 #[.slice A n c, .func (.func 53) #[] #[]] w (LB Sc w (eachP idB l)) := by
  unfold eachP
  rw [← hn]
  by_cases h : n = 0 ∨ 4 < n
  · rw [if_pos h]
    exact eachpi_none A n c w h
  · rw [if_neg h]
    exact eachpi_some A l n c B w hr hn (by omega) (by omega) hnc hB hok
end Go.Proofs.Ytbofabmgfkploaa
