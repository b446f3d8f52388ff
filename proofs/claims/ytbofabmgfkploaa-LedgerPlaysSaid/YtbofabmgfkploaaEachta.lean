/-
  The walk of package event's each, from texts to Ac.
-/
import Derived.Test.YtbofabmgfkploaaEach
namespace Go.Proofs.Ytbofabmgfkploaa
open Go.RowKit
set_option maxRecDepth 10000

set_option maxHeartbeats 1000000 in
theorem eachta_none (A : Option Addr) (n c : Nat) (w : World) (h : n = 0 ∨ 4 < n) : Calls Try.prog 65 #[.slice A n c, .func (.func 67) #[] #[]] w (LB Ac.cells w ([], false)) := by
  by_cases h0 : n = 0
  · subst h0
    clear h
    go_enter Try.func65, Try.ntmps65
    go_wp2_with fail
    go_ret2
    exact LB_none _ (Below.refl _ _)
  · have h1 : ((n : Int) == 0) = false := beq_eq_false_iff_ne.2 (by omega)
    have h2 : decide (4 < (n : Int)) = true := decide_eq_true (by omega)
    clear h
    go_enter Try.func65, Try.ntmps65
    go_wp2_with fail
    go_ret2
    exact LB_none _ (Below.refl _ _)

theorem ABS_len (p : List UInt8) : (ABS p).1.length = 4 := by unfold ABS; split <;> rfl
theorem ABS_one (p : List UInt8) : (ABS p).1.all (·.oneCell') = true := by unfold ABS; split <;> rfl
theorem ABS_ok (p : List UInt8) : (ABS p).2 = decide (p.length = 9) := by unfold ABS; split <;> simp_all
set_option maxHeartbeats 1000000 in
theorem eachta_some (A : Option Addr) (l : List (List UInt8)) (n c B : Nat) (w : World) (hr : Rd w B A (rows Sc l)) (hn : n = l.length) (h0 : 0 < n) (h4 : n ≤ 4) (hnc : n ≤ c) (hB : B ≤ w.heap.size) :
    Calls Try.prog 65 #[.slice A n c, .func (.func 67) #[] #[]] w (LB Ac.cells w (if l.all (fun p => p.length = 9) then (l.map decA, true) else ([], false))) := by
  obtain ⟨i0, hi, hz0, hz1, hz2⟩ := info_parts acInfo
  have hlen := rows_len (C := Sc) Sc_len l
  obtain ⟨ga, o, rfl, hga, hcell⟩ := id hr (by intro e; rw [e] at hlen; simp at hlen; omega)
  clear hcell
  have h1 : ((n : Int) == 0) = false := beq_eq_false_iff_ne.2 (by omega)
  have h2 : ¬ 4 < (n : Int) := by omega
  have hXl : (l.map fun p => (ABS p).1).length = n := by rw [List.length_map, hn]
  have hX1 : ∀ r ∈ l.map fun p => (ABS p).1, r.length = 4 := by
    intro r hr
    obtain ⟨x, _, rfl⟩ := List.mem_map.1 hr
    exact ABS_len x
  have hXk : ∀ k (hk : k < l.length), (l.map fun p => (ABS p).1)[k]? = some ((ABS l[k]).1) := by
    intro k hk
    simp [hk]
  have hXe : (∀ j (hj : j < l.length), l[j].length = 9) → (l.map fun p => (ABS p).1).flatten = rows Ac.cells (l.map decA) := by
    intro h
    unfold rows
    rw [List.map_map]
    congr 1
    apply List.map_congr_left
    intro p hp
    obtain ⟨j, hj, rfl⟩ := List.getElem_of_mem hp
    simp only [Function.comp, ABS, if_pos (h j hj)]
  generalize (l.map fun p => (ABS p).1) = XS at *
  have HXL := hid hXl
  have HX1 := hid hX1
  have HXK := hid hXk
  have HXE := hid hXe
  have HR := hid hr
  have HN := hid hn
  have HZ := hid acSize
  have HZ4 : Hid (ac0.cells.length = 4) := hid rfl
  obtain ⟨r, hr0⟩ : ∃ r, (if l.all (fun p => p.length = 9) then (l.map decA, true) else ([], false)) = r := ⟨_, rfl⟩
  rw [hr0]
  have HYES : Hid ((l.all fun p => p.length = 9) = true → r = (l.map decA, true)) := hid fun h => by rw [← hr0, if_pos h]
  have HNO : Hid ((l.all fun p => p.length = 9) = false → r = ([], false)) := hid fun h => by rw [← hr0, if_neg (by rw [h]; decide)]
  clear hr0 hXl hX1 hXk hXe hr hn hlen
  go_enter Try.func65, Try.ntmps65
  go_wp2_with (refine wpl_make_big rfl _ _ _ rfl 45 i0 _ ac0.cells Try.underlying27 hi hz0 hz1 rfl (by decide) _ _ _ _ n rfl rfl ?_ ?_ ?_ ?_ ?_; intro g w1 HG HR1 HG1)
  rotate_left
  · exact hid trivial
  · exact hid trivial
  · exact hid (by omega)
  · exact hid (le_maxLen (by omega))
  have hg : g = w.heap.size := HG.out
  subst hg
  have hb1 : Below w.heap.size w w1 := (Below.refl _ _).grown HG1 (Nat.le_refl _) (by intro k hk; cases hk)
  have HB1 := hid hb1
  have HRW := hid HR1
  clear hb1 HR1 HG1 HG
  go_loopw [23] (fun i wr => ∃ k : Nat, k ≤ n ∧ i = .int .i64 k ∧ Hid (∀ j (hj : j < l.length), j < k → l[j].length = 9) ∧ Row wr w.heap.size 45 (part XS ac0.cells n k).flatten ∧ Below w.heap.size w wr) (fun i _ => n - (intOf i).toNat)
  case atStart => exact ⟨0, by omega, rfl, hid (by intro j _ hj; omega), by rw [part_zero]; exact HRW.out, HB1.out⟩
  case round =>
    obtain ⟨k, hk, rfl, HP, hrow, hbe⟩ := hrel
    have HBE := hid hbe
    have hlt0 := hrow.lt
    by_cases hlt : k < n
    · have hkl : k < l.length := by rw [← HN.out]; exact hlt
      have hrd := HR.out.below hbe hB
      have hrg := hrd.range Sc_len k hkl
      have hcl : wr.cell? ⟨ga, o + k, none⟩ = some (.string ⟨l[k].toArray⟩) := by
        have := hrg 0 _ rfl
        rw [Nat.mul_one] at this
        exact this
      have HW := hid (taka_any ⟨l[k].toArray⟩)
      rw [sb_mk] at HW
      have HK := hid (fun (W : World) (hb : Below wr.heap.size wr W) => hrow.below hb hrow.lt)
      have HSM : Hid (∀ b, (ABS l[k]).2 = b → b = true → ∀ j (hj : j < l.length), j < k + 1 → l[j].length = 9) := hid fun b hb hbt j hj hjk => by
        by_cases e : j = k
        · subst e; rw [hbt, ABS_ok] at hb; exact of_decide_eq_true hb
        · exact HP.out j hj (by omega)
      have HFA : Hid (∀ b, (ABS l[k]).2 = b → b = false → (l.all fun p => p.length = 9) = false) := hid fun b hb hbf => tail_all hkl (by rw [← ABS_ok, hb, hbf])
      have hXk := HXK.out k hkl
      have hC4 := ABS_len l[k]
      have hC1 := ABS_one l[k]
      generalize hq : ABS l[k] = q at *
      obtain ⟨X, bb⟩ := q
      have HSM2 := hid (HSM.out bb rfl)
      have HFA2 := hid (HFA.out bb rfl)
      have HC4 : Hid (X.length = 4) := hid hC4
      have HC1 : Hid (X.all (·.oneCell') = true) := hid hC1
      have HXk : Hid (XS[k]? = some X) := hid hXk
      clear hXk hC4 hC1 hq HSM HFA hrow hbe hrd hrg HRW HB1
      generalize (⟨l[k].toArray⟩ : ByteArray) = s at *
      cases bb
      all_goals
        go_wp2_with (first
          | (go_at_call 67; refine (HW.out _).mono ?_; rintro e w3 ⟨rfl, hbe3⟩; have hr3 := HK.out w3 hbe3)
          | (refine wpl_store_part rfl (.tmp 36) (.tmp 34) rfl HZ.out w.heap.size k n XS ac0.cells X rfl rfl hr3 ?_ (hid HXL.out) (hid HX1.out) (hid HZ4.out) (hid hlt) (hid HXk.out) (hid HC1.out); intro w4 hr4 hg4; have HR4 := hid hr4; have HB4 := hid ((HBE.out.trans (hbe3.mono HBE.out.size)).trans (below_grown hg4 (Nat.le_refl _) (Nat.le_trans HBE.out.size hbe3.size))); clear hr3 hr4 hg4 hbe3))
      · go_ret2
        rw [HNO.out (HFA2.out (by simp))]
        exact LB_none _ HB4.out
      · exact ⟨⟨k + 1, by omega, by go_num, hid (HSM2.out (by simp)), HR4.out, HB4.out⟩, by simp [intOf]; omega⟩
    · obtain rfl : k = n := by omega
      rw [part_all HXL.out, HXE.out (fun j hj => HP.out j hj (by rw [HN.out]; exact hj))] at hrow
      have HRR := hid hrow
      have HALL := hid (head_all (f := fun p : List UInt8 => decide (p.length = 9)) (fun j hj => decide_eq_true (HP.out j hj (by rw [HN.out]; exact hj))))
      clear hrow hbe
      go_wp2_with fail
      go_ret2
      rw [HYES.out HALL.out]
      refine ⟨_, k, ?_, ?_, HRR.out.rd HRR.out.lt, HBE.out, NewA.head _ _⟩
      · show _ = Ending.returned (.tuple #[.slice _ (l.map _).length k, .bool true])
        rw [List.length_map, ← HN.out]
        rfl
      · show (l.map _).length ≤ k
        rw [List.length_map, ← HN.out]
        exact Nat.le_refl _
theorem eachta_any (A : Option Addr) (l : List (List UInt8)) (n c B : Nat) (w : World) (hr : Rd w B A (rows Sc l)) (hn : n = l.length) (hnc : n ≤ c) (hB : B ≤ w.heap.size) :
    Calls Try.prog 65 #[.slice A n c, .func (.func 67) #[] #[]] w (LB Ac.cells w (eachT 9 decA l)) := by
  unfold eachT
  rw [← hn]
  by_cases h : n = 0 ∨ 4 < n
  · rw [if_pos h]
    exact eachta_none A n c w h
  · rw [if_neg h]
    exact eachta_some A l n c B w hr hn (by omega) (by omega) hnc hB
end Go.Proofs.Ytbofabmgfkploaa
