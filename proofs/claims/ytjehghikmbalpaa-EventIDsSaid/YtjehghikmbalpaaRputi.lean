/-
  The walk of the document's PutIDs.
-/
import Derived.Test.YtjehghikmbalpaaRef3
import Derived.Deep.RegionHeld
namespace Go.Proofs.Ytjehghikmbalpaa
open Go.RowKit
set_option maxRecDepth 10000

set_option maxHeartbeats 1000000 in
theorem rputi_none (A : Option Addr) (n c : Nat) (w : World) (h : n = 0 ∨ 4 < n) : Calls Try.prog 17 #[.slice A n c] w (SN w ([], 1)) := by
  have HM := hid (many_any (n : Int))
  rw [decide_eq_false (show ¬ (1 ≤ (n : Int) ∧ (n : Int) ≤ 4) by omega)] at HM
  clear h
  go_enter Try.func17, Try.ntmps17
  go_wp2_with (go_at_call 32; refine (HM.out _).mono ?_; rintro e w' ⟨rfl, rfl⟩)
  go_ret2
  exact ⟨rfl, Below.refl _ _⟩

set_option maxHeartbeats 1000000 in
theorem rputi_some (A : Option Addr) (l : List Nat) (n c B : Nat) (w : World) (hr : Rd w B A (rows Ic l)) (hn : n = l.length) (h0 : 0 < n) (h4 : n ≤ 4) (hnc : n ≤ c) (hB : B ≤ w.heap.size) (hok : ∀ x ∈ l, U64 x) :
    Calls Try.prog 17 #[.slice A n c] w (SN w (if l.all (fun x => (idB x).isSome) then (l.flatMap (fun x => (idB x).getD []), 0) else ([], 1))) := by
  have hlen := rows_len (C := Ic) Ic_len l
  obtain ⟨ga, o, rfl, hga, hcell⟩ := id hr (by intro e; rw [e] at hlen; simp at hlen; omega)
  clear hcell
  have HM := hid (many_any (n : Int))
  rw [decide_eq_true (show (1 ≤ (n : Int) ∧ (n : Int) ≤ 4) by omega)] at HM
  have HR := hid hr
  have HN := hid hn
  have HOK := hid (fun k (hk : k < l.length) => hok l[k] (List.getElem_mem hk))
  obtain ⟨r, hr0⟩ : ∃ r : List UInt8 × Int, (if l.all (fun x => (idB x).isSome) then (l.flatMap (fun x => (idB x).getD []), 0) else ([], 1)) = r := ⟨_, rfl⟩
  rw [hr0]
  have HYES : Hid ((l.all fun x => (idB x).isSome) = true → r = (l.flatMap (fun x => (idB x).getD []), 0)) := hid fun h => by rw [← hr0, if_pos h]
  have HNO : Hid ((l.all fun x => (idB x).isSome) = false → r = ([], 1)) := hid fun h => by rw [← hr0, if_neg (by rw [h]; decide)]
  clear hr0 hr hn hok hlen
  go_enter Try.func17, Try.ntmps17
  go_wp2_with (go_at_call 32; refine (HM.out _).mono ?_; rintro e w' ⟨rfl, rfl⟩)
  go_loopw [4, 5] (fun sv iv wr => ∃ k : Nat, k ≤ n ∧ iv = .int .i64 (k : Int) ∧ sv = .string ⟨(pre idB l k).toArray⟩ ∧ Hid (∀ j (hj : j < l.length), j < k → (idB l[j]).isSome = true) ∧ Below w.heap.size w wr) (fun _ iv _ => n - (intOf iv).toNat)
  case atStart => exact ⟨0, by omega, rfl, rfl, hid (by intro j _ hj; omega), Below.refl _ _⟩
  case round =>
    obtain ⟨k, hk, rfl, rfl, HP, hbe⟩ := hrel
    have HBE := hid hbe
    have hsz := hbe.size
    have hple := pre_len idB l 8 (fun x => Nat.le_of_eq (idB_len x)) k
    have hple2 : (pre idB l k).length ≤ 128 := by
      have : k * 8 ≤ 4 * 8 := Nat.mul_le_mul_right _ (by omega)
      omega
    clear hple
    by_cases hlt : k < n
    · have hkl : k < l.length := by rw [← HN.out]; exact hlt
      have hrd := HR.out.below hbe hB
      have hrg := hrd.range Ic_len k hkl
      have HPS := hid (pre_succ idB l k hkl)
      have hokk := HOK.out k hkl
      have hcl : wr.cell? ⟨ga, o + k, none⟩ = some (.int .u64 (l[k] : Int)) := by
        have := hrg 0 _ rfl
        rw [Nat.mul_one] at this
        exact this
      have HE := hid (fun W => eight_any l[k] W hokk)
      have hps2 : pre idB l (k + 1) = pre idB l k ++ le l[k] 8 := HPS.out
      generalize pre idB l k = Q at *
      have HCAT := hid hps2
      have hcat : ¬ (9223372036854775807 < Q.length + (le l[k] 8).length) := by rw [le_len]; omega
      have HALL : Hid ((l.all fun x => (idB x).isSome) = true) := hid (by rw [List.all_eq_true]; intro x _; rfl)
      clear hps2 HPS hrd hrg hbe hokk
      generalize le l[k] 8 = E at *
      generalize l[k] = x at *
      go_wp2_with (go_at_call 34; refine (HE.out _).mono ?_; rintro e w2 ⟨rfl, hb2⟩)
      exact ⟨⟨k + 1, by omega, by go_num, by rw [HCAT.out, ← cat_mk], hid (fun j hj _ => rfl), HBE.out.trans (hb2.mono hsz)⟩, by simp [intOf]; omega⟩
    · obtain rfl : k = n := by omega
      have hfin : pre idB l k = l.flatMap (fun x => (idB x).getD []) := by
        unfold pre
        rw [List.take_of_length_le (by rw [HN.out]; exact Nat.le_refl _)]
      have HALL := hid (head_all (f := fun x => (idB x).isSome) (fun j hj => HP.out j hj (by rw [HN.out]; exact hj)))
      have HY := hid (HYES.out HALL.out)
      rw [← hfin] at HY
      generalize pre idB l k = Q at *
      clear hfin hbe
      go_wp2_with fail
      go_ret2
      rw [HY.out]
      exact ⟨rfl, HBE.out⟩
theorem rputi_list (A : Option Addr) (l : List Nat) (n c B : Nat) (w : World) (hr : Rd w B A (rows Ic l)) (hn : n = l.length) (hnc : n ≤ c) (hB : B ≤ w.heap.size) (hok : ∀ x ∈ l, U64 x) :
    Calls Try.prog 17 #[.slice A n c] w (SN w (putL idB l)) := by
  unfold putL
  rw [← hn]
  by_cases h : n = 0 ∨ 4 < n
  · rw [if_pos h]
    exact rputi_none A n c w h
  · rw [if_neg h]
    exact rputi_some A l n c B w hr hn (by omega) (by omega) hnc hB hok
end Go.Proofs.Ytjehghikmbalpaa
