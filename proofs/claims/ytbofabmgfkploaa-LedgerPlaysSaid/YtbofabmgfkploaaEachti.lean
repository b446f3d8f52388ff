/-
  The walk of package event's each, from texts to Nat.
-/
import Derived.Test.YtbofabmgfkploaaEach
namespace Go.Proofs.Ytbofabmgfkploaa
open Go.RowKit
set_option maxRecDepth 10000

set_option maxHeartbeats 1000000 in
theorem eachti_none (A : Option Addr) (n c : Nat) (w : World) (h : n = 0 ∨ 4 < n) : Calls Try.prog 75 #[.slice A n c, .func (.func 76) #[] #[]] w (LB Ic w ([], false)) := by
  by_cases h0 : n = 0
  · subst h0
    clear h
    go_enter Try.func75, Try.ntmps75
    go_wp2_with fail
    go_ret2
    exact LB_none _ (Below.refl _ _)
  · have h1 : ((n : Int) == 0) = false := beq_eq_false_iff_ne.2 (by omega)
    have h2 : decide (4 < (n : Int)) = true := decide_eq_true (by omega)
    clear h
    go_enter Try.func75, Try.ntmps75
    go_wp2_with fail
    go_ret2
    exact LB_none _ (Below.refl _ _)

theorem NBS_ok (p : List UInt8) : (NBS p).2 = decide (p.length = 8) := by unfold NBS; split <;> simp_all
set_option maxHeartbeats 1000000 in
theorem eachti_some (A : Option Addr) (l : List (List UInt8)) (n c B : Nat) (w : World) (hr : Rd w B A (rows Sc l)) (hn : n = l.length) (h0 : 0 < n) (h4 : n ≤ 4) (hnc : n ≤ c) (hB : B ≤ w.heap.size) :
    Calls Try.prog 75 #[.slice A n c, .func (.func 76) #[] #[]] w (LB Ic w (if l.all (fun p => p.length = 8) then (l.map decI, true) else ([], false))) := by
  obtain ⟨i0, hi, hz0, hz1, hz2⟩ := info_parts u64Info
  have hlen := rows_len (C := Sc) Sc_len l
  obtain ⟨ga, o, rfl, hga, hcell⟩ := id hr (by intro e; rw [e] at hlen; simp at hlen; omega)
  clear hcell
  have h1 : ((n : Int) == 0) = false := beq_eq_false_iff_ne.2 (by omega)
  have h2 : ¬ 4 < (n : Int) := by omega
  have hXl : (l.map fun p => Ic (NBS p).1).length = n := by rw [List.length_map, hn]
  have hX1 : ∀ r ∈ l.map fun p => Ic (NBS p).1, r.length = 1 := by
    intro r hr
    obtain ⟨x, _, rfl⟩ := List.mem_map.1 hr
    exact rfl
  have hXk : ∀ k (hk : k < l.length), (l.map fun p => Ic (NBS p).1)[k]? = some (Ic (NBS l[k]).1) := by
    intro k hk
    simp [hk]
  have hXe : (∀ j (hj : j < l.length), l[j].length = 8) → (l.map fun p => Ic (NBS p).1).flatten = rows Ic (l.map decI) := by
    intro h
    unfold rows
    rw [List.map_map]
    congr 1
    apply List.map_congr_left
    intro p hp
    obtain ⟨j, hj, rfl⟩ := List.getElem_of_mem hp
    simp only [Function.comp, NBS, if_pos (h j hj)]
  generalize (l.map fun p => Ic (NBS p).1) = XS at *
  have HXL := hid hXl
  have HX1 := hid hX1
  have HXK := hid hXk
  have HXE := hid hXe
  have HR := hid hr
  have HN := hid hn
  obtain ⟨r, hr0⟩ : ∃ r, (if l.all (fun p => p.length = 8) then (l.map decI, true) else ([], false)) = r := ⟨_, rfl⟩
  rw [hr0]
  have HYES : Hid ((l.all fun p => p.length = 8) = true → r = (l.map decI, true)) := hid fun h => by rw [← hr0, if_pos h]
  have HNO : Hid ((l.all fun p => p.length = 8) = false → r = ([], false)) := hid fun h => by rw [← hr0, if_neg (by rw [h]; decide)]
  clear hr0 hXl hX1 hXk hXe hr hn hlen
  go_enter Try.func75, Try.ntmps75
  go_wp2_with (refine wpl_make_big rfl _ _ _ rfl 41 i0 _ [.int .u64 0] Try.underlying46 hi hz0 hz1 rfl (by decide) _ _ _ _ n rfl rfl ?_ ?_ ?_ ?_ ?_; intro g w1 HG HR1 HG1)
  rotate_left
  · exact hid trivial
  · exact hid trivial
  · exact hid (by omega)
  · exact hid (le_maxLen (by omega))
  have hg : g = w.heap.size := HG.out
  subst hg
  have hb1 : Below w.heap.size w w1 := (Below.refl _ _).grown HG1 (Nat.le_refl _) (by intro k hk; cases hk)
  have HB1 := hid hb1
  have HRW := hid HR1
  clear hb1 HR1 HG1 HG
  go_loopw [23] (fun i wr => ∃ k : Nat, k ≤ n ∧ i = .int .i64 k ∧ Hid (∀ j (hj : j < l.length), j < k → l[j].length = 8) ∧ Row wr w.heap.size 41 (part XS [.int .u64 0] n k).flatten ∧ Below w.heap.size w wr) (fun i _ => n - (intOf i).toNat)
  case atStart => exact ⟨0, by omega, rfl, hid (by intro j _ hj; omega), by rw [part_zero]; exact HRW.out, HB1.out⟩
  case round =>
    obtain ⟨k, hk, rfl, HP, hrow, hbe⟩ := hrel
    have HBE := hid hbe
    have hlt0 := hrow.lt
    by_cases hlt : k < n
    · have hkl : k < l.length := by rw [← HN.out]; exact hlt
      have hrd := HR.out.below hbe hB
      have hrg := hrd.range Sc_len k hkl
      have hcl : wr.cell? ⟨ga, o + k, none⟩ = some (.string ⟨l[k].toArray⟩) := by
        have := hrg 0 _ rfl
        rw [Nat.mul_one] at this
        exact this
      have HW := hid (taki_any ⟨l[k].toArray⟩)
      rw [sb_mk] at HW
      have HK := hid (fun (W : World) (hb : Below wr.heap.size wr W) => part_cell (hrow.below hb hrow.lt) HXL.out HX1.out rfl hlt (HXK.out k hkl))
      have HSM : Hid (∀ b, (NBS l[k]).2 = b → b = true → ∀ j (hj : j < l.length), j < k + 1 → l[j].length = 8) := hid fun b hb hbt j hj hjk => by
        by_cases e : j = k
        · subst e; rw [hbt, NBS_ok] at hb; exact of_decide_eq_true hb
        · exact HP.out j hj (by omega)
      have HFA : Hid (∀ b, (NBS l[k]).2 = b → b = false → (l.all fun p => p.length = 8) = false) := hid fun b hb hbf => tail_all hkl (by rw [← NBS_ok, hb, hbf])
      generalize hq : NBS l[k] = q at *
      obtain ⟨x, bb⟩ := q
      have HSM2 := hid (HSM.out bb rfl)
      have HFA2 := hid (HFA.out bb rfl)
      clear hq HSM HFA hrow hbe hrd hrg HRW HB1
      generalize (⟨l[k].toArray⟩ : ByteArray) = s at *
      have HK2 : Hid (∀ W : World, Below wr.heap.size wr W → (∃ u0, W.cell? ⟨w.heap.size, k, none⟩ = some u0) ∧ W.frozen? ⟨w.heap.size, k, none⟩ = false ∧ Row (W.setCell ⟨w.heap.size, k, none⟩ (.int .u64 (x : Int))) w.heap.size 41 (part XS [.int .u64 0] n (k + 1)).flatten) := hid HK.out
      clear HK
      cases bb
      all_goals
        go_wp2_with (go_at_call 76; refine (HW.out _).mono ?_; rintro e w3 ⟨rfl, hbe3⟩; obtain ⟨⟨u0, q1⟩, q2, q3⟩ := HK2.out w3 hbe3; have Q3 := hid q3; have HB3 := hid hbe3; clear q3)
      · go_ret2
        rw [HNO.out (HFA2.out (by simp))]
        exact LB_none _ (((HBE.out.trans (HB3.out.mono HBE.out.size))).setCell (Nat.le_refl _) _)
      · exact ⟨⟨k + 1, by omega, by go_num, hid (HSM2.out (by simp)), Q3.out, (HBE.out.trans (HB3.out.mono HBE.out.size)).setCell (Nat.le_refl _) _⟩, by simp [intOf]; omega⟩
    · obtain rfl : k = n := by omega
      rw [part_all HXL.out, HXE.out (fun j hj => HP.out j hj (by rw [HN.out]; exact hj))] at hrow
      have HRR := hid hrow
      have HALL := hid (head_all (f := fun p : List UInt8 => decide (p.length = 8)) (fun j hj => decide_eq_true (HP.out j hj (by rw [HN.out]; exact hj))))
      clear hrow hbe
      go_wp2_with fail
      go_ret2
      rw [HYES.out HALL.out]
      refine ⟨_, k, ?_, ?_, HRR.out.rd HRR.out.lt, HBE.out, NewA.head _ _⟩
      · show _ = Ending.returned (.tuple #[.slice _ (l.map _).length k, .bool true])
        rw [List.length_map, ← HN.out]
        rfl
      · show (l.map _).length ≤ k
        rw [List.length_map, ← HN.out]
        exact Nat.le_refl _
theorem eachti_any (A : Option Addr) (l : List (List UInt8)) (n c B : Nat) (w : World) (hr : Rd w B A (rows Sc l)) (hn : n = l.length) (hnc : n ≤ c) (hB : B ≤ w.heap.size) :
    Calls Try.prog 75 #[.slice A n c, .func (.func 76) #[] #[]] w (LB Ic w (eachT 8 decI l)) := by
  unfold eachT
  rw [← hn]
  by_cases h : n = 0 ∨ 4 < n
  · rw [if_pos h]
    exact eachti_none A n c w h
  · rw [if_neg h]
    exact eachti_some A l n c B w hr hn (by omega) (by omega) hnc hB
end Go.Proofs.Ytbofabmgfkploaa
