/-
  The walk of the document's PutTransfers.
-/
import Derived.Test.YtbofabmgfkploaaRef3
import Derived.Deep.RegionHeld
namespace Go.Proofs.Ytbofabmgfkploaa
open Go.RowKit
set_option maxRecDepth 10000

set_option maxHeartbeats 1000000 in
theorem rputt_none (A : Option Addr) (n c : Nat) (w : World) (h : n = 0 ∨ 4 < n) : Calls Try.prog 50 #[.slice A n c] w (SN w ([], 1)) := by
  have HM := hid (many_any (n : Int))
  rw [decide_eq_false (show ¬ (1 ≤ (n : Int) ∧ (n : Int) ≤ 4) by omega)] at HM
  clear h
  go_enter Try.func50, Try.ntmps50
  go_wp2_with (go_at_call 80; refine (HM.out _).mono ?_; rintro e w' ⟨rfl, rfl⟩)
  go_ret2
  exact ⟨rfl, Below.refl _ _⟩

set_option maxHeartbeats 1000000 in
theorem rputt_some (A : Option Addr) (l : List Tr) (n c B : Nat) (w : World) (hr : Rd w B A (rows Tr.cells l)) (hn : n = l.length) (h0 : 0 < n) (h4 : n ≤ 4) (hnc : n ≤ c) (hB : B ≤ w.heap.size) (hok : ∀ x ∈ l, x.ok) :
    Calls Try.prog 50 #[.slice A n c] w (SN w (if l.all (fun x => (trB x).isSome) then (l.flatMap (fun x => (trB x).getD []), 0) else ([], 1))) := by
  have hlen := rows_len (C := Tr.cells) Tr.len l
  obtain ⟨ga, o, rfl, hga, hcell⟩ := id hr (by intro e; rw [e] at hlen; simp at hlen; omega)
  clear hcell
  have HM := hid (many_any (n : Int))
  rw [decide_eq_true (show (1 ≤ (n : Int) ∧ (n : Int) ≤ 4) by omega)] at HM
  have HR := hid hr
  have HN := hid hn
  have HOK := hid (fun k (hk : k < l.length) => hok l[k] (List.getElem_mem hk))
  obtain ⟨r, hr0⟩ : ∃ r : List UInt8 × Int, (if l.all (fun x => (trB x).isSome) then (l.flatMap (fun x => (trB x).getD []), 0) else ([], 1)) = r := ⟨_, rfl⟩
  rw [hr0]
  have HYES : Hid ((l.all fun x => (trB x).isSome) = true → r = (l.flatMap (fun x => (trB x).getD []), 0)) := hid fun h => by rw [← hr0, if_pos h]
  have HNO : Hid ((l.all fun x => (trB x).isSome) = false → r = ([], 1)) := hid fun h => by rw [← hr0, if_neg (by rw [h]; decide)]
  clear hr0 hr hn hok hlen
  go_enter Try.func50, Try.ntmps50
  go_wp2_with (go_at_call 80; refine (HM.out _).mono ?_; rintro e w' ⟨rfl, rfl⟩)
  go_loopw [4, 5] (fun sv iv wr => ∃ k : Nat, k ≤ n ∧ iv = .int .i64 (k : Int) ∧ sv = .string ⟨(pre trB l k).toArray⟩ ∧ Hid (∀ j (hj : j < l.length), j < k → (trB l[j]).isSome = true) ∧ Below w.heap.size w wr) (fun _ iv _ => n - (intOf iv).toNat)
  case atStart => exact ⟨0, by omega, rfl, rfl, hid (by intro j _ hj; omega), Below.refl _ _⟩
  case round =>
    obtain ⟨k, hk, rfl, rfl, HP, hbe⟩ := hrel
    have HBE := hid hbe
    have hsz := hbe.size
    have hple := pre_len trB l 32 (fun x => Nat.le_of_eq (trB_len x)) k
    have hple2 : (pre trB l k).length ≤ 128 := by
      have : k * 32 ≤ 4 * 32 := Nat.mul_le_mul_right _ (by omega)
      omega
    clear hple
    by_cases hlt : k < n
    · have hkl : k < l.length := by rw [← HN.out]; exact hlt
      have hrd := HR.out.below hbe hB
      have hrg := hrd.range Tr.len k hkl
      have HPS := hid (pre_succ trB l k hkl)
      have hokk := HOK.out k hkl
      obtain ⟨hx0, hx1, hx2, hx3⟩ := hokk
      have hcs : ∀ j v, (l[k]).cells[j]? = some v → ∀ W, Kp wr W → W.cell? ⟨ga, o + k * 4 + j, none⟩ = some v := fun j v hv W hW => by
        rw [Below.cell (p := ⟨ga, o + k * 4 + j, none⟩) hW (by show ga < _; omega)]
        exact hrg j v hv
      have hc0 := hcs 0 _ rfl
      simp only [Nat.add_zero] at hc0
      have HC0 := hid hc0
      clear hc0
      have HC1 := hid (hcs 1 _ rfl)
      have HC2 := hid (hcs 2 _ rfl)
      have HC3 := hid (hcs 3 _ rfl)
      have HE0 := hid (fun W => eight_any l[k].a W hx0)
      have HE1 := hid (fun W => eight_any l[k].b W hx1)
      have HE2 := hid (fun W => eight_any l[k].c W hx2)
      have HE3 := hid (fun W => eight_any l[k].d W hx3)
      have hps2 : pre trB l (k + 1) = pre trB l k ++ le l[k].a 8 ++ le l[k].b 8 ++ le l[k].c 8 ++ le l[k].d 8 := by
        rw [HPS.out]
        show pre trB l k ++ (le l[k].a 8 ++ le l[k].b 8 ++ le l[k].c 8 ++ le l[k].d 8) = _
        simp only [List.append_assoc]
      generalize pre trB l k = Q at *
      have HCAT := hid hps2
      have h81 := le_len 8 l[k].a
      have h82 := le_len 8 l[k].b
      have h83 := le_len 8 l[k].c
      have h84 := le_len 8 l[k].d
      clear hps2 HPS hrd hrg hbe hcs hx0 hx1 hx2 hx3
      generalize le l[k].a 8 = E0 at *
      generalize le l[k].b 8 = E1 at *
      generalize le l[k].c 8 = E2 at *
      generalize le l[k].d 8 = E3 at *
      generalize l[k].a = x0 at *
      generalize l[k].b = x1 at *
      generalize l[k].c = x2 at *
      generalize l[k].d = x3 at *
      have hq1 : ¬ (9223372036854775807 < Q.length + E0.length) := by omega
      have hq2 : ¬ (9223372036854775807 < Q.length + E0.length + E1.length) := by omega
      have hq3 : ¬ (9223372036854775807 < Q.length + E0.length + E1.length + E2.length) := by omega
      have hq4 : ¬ (9223372036854775807 < Q.length + E0.length + E1.length + E2.length + E3.length) := by omega
      have hq2' : ¬ (9223372036854775807 < Q.length + (E0.length + E1.length)) := by omega
      have hq3' : ¬ (9223372036854775807 < Q.length + (E0.length + (E1.length + E2.length))) := by omega
      have hq4' : ¬ (9223372036854775807 < Q.length + (E0.length + (E1.length + (E2.length + E3.length)))) := by omega
      have hkn : (k : Int) < (n : Int) := by omega
      clear h81 h82 h83 h84
      have hk0 : (0 : Int) ≤ (k : Int) := by omega
      go_wp2_with fail
      refine wp_region_held_drew (S := fun w' => Kp wr w') (by kernel_rfl) (Kp.refl _).drew (fun hH => ?_)
      refine wpAnyH_take (i := 0) (v := .string ⟨Q.toArray⟩) rfl (by kernel_rfl) (by kernel_rfl) (by kernel_rfl) (fun _ _ _ h => h) (Or.inl ⟨by rfl, fun w' hw' => by clear hw' ; go_simp⟩) hH ?_
      simp only [Act.put]
      refine wpAnyH_take (i := 1) (v := .slice (some ⟨ga, o, none⟩) n c) rfl (by kernel_rfl) (by kernel_rfl) (by kernel_rfl) (fun _ _ _ h => h) (Or.inl ⟨by rfl, fun w' hw' => by clear hw' ; go_simp⟩) hH ?_
      simp only [Act.put]
      refine wpAnyH_take (i := 2) (v := .int .i64 (k : Int)) rfl (by kernel_rfl) (by kernel_rfl) (by kernel_rfl) (fun _ _ _ h => h) (Or.inl ⟨by rfl, fun w' hw' => by clear hw' ; go_simp⟩) hH ?_
      simp only [Act.put]
      refine wpAnyH_take (i := 3) (v := .pointer (some ⟨ga, o + k * 4, none⟩)) rfl (by kernel_rfl) (by kernel_rfl) (by kernel_rfl) (fun _ _ _ h => h) (Or.inl ⟨by rfl, fun w' hw' => by clear hw' ; go_simp⟩) hH ?_
      simp only [Act.put]
      refine wpAnyH_take (i := 4) (v := .pointer (some ⟨ga, o + k * 4, none⟩)) rfl (by kernel_rfl) (by kernel_rfl) (by kernel_rfl) (fun _ _ _ h => h) (Or.inl ⟨by rfl, fun w' hw' => by clear hw' ; go_simp⟩) hH ?_
      simp only [Act.put]
      refine wpAnyH_take (i := 5) (v := .int .u64 (x0 : Int)) rfl (by kernel_rfl) (by kernel_rfl) (by kernel_rfl) (fun _ _ _ h => h) (Or.inl ⟨by rfl, fun w' hw' => by have h := HC0.out w' hw'; go_simp⟩) hH ?_
      simp only [Act.put]
      refine wpAnyH_take (i := 8) (v := .slice (some ⟨ga, o, none⟩) n c) rfl (by kernel_rfl) (by kernel_rfl) (by kernel_rfl) (fun _ _ _ h => h) (Or.inl ⟨by rfl, fun w' hw' => by clear hw' ; go_simp⟩) hH ?_
      simp only [Act.put]
      refine wpAnyH_take (i := 9) (v := .int .i64 (k : Int)) rfl (by kernel_rfl) (by kernel_rfl) (by kernel_rfl) (fun _ _ _ h => h) (Or.inl ⟨by rfl, fun w' hw' => by clear hw' ; go_simp⟩) hH ?_
      simp only [Act.put]
      refine wpAnyH_take (i := 10) (v := .pointer (some ⟨ga, o + k * 4, none⟩)) rfl (by kernel_rfl) (by kernel_rfl) (by kernel_rfl) (fun _ _ _ h => h) (Or.inl ⟨by rfl, fun w' hw' => by clear hw' ; go_simp⟩) hH ?_
      simp only [Act.put]
      refine wpAnyH_take (i := 11) (v := .pointer (some ⟨ga, o + k * 4 + 1, none⟩)) rfl (by kernel_rfl) (by kernel_rfl) (by kernel_rfl) (fun _ _ _ h => h) (Or.inl ⟨by rfl, fun w' hw' => by clear hw' ; go_simp⟩) hH ?_
      simp only [Act.put]
      refine wpAnyH_take (i := 12) (v := .int .u64 (x1 : Int)) rfl (by kernel_rfl) (by kernel_rfl) (by kernel_rfl) (fun _ _ _ h => h) (Or.inl ⟨by rfl, fun w' hw' => by have h := HC1.out w' hw'; go_simp⟩) hH ?_
      simp only [Act.put]
      refine wpAnyH_take (i := 15) (v := .slice (some ⟨ga, o, none⟩) n c) rfl (by kernel_rfl) (by kernel_rfl) (by kernel_rfl) (fun _ _ _ h => h) (Or.inl ⟨by rfl, fun w' hw' => by clear hw' ; go_simp⟩) hH ?_
      simp only [Act.put]
      refine wpAnyH_take (i := 16) (v := .int .i64 (k : Int)) rfl (by kernel_rfl) (by kernel_rfl) (by kernel_rfl) (fun _ _ _ h => h) (Or.inl ⟨by rfl, fun w' hw' => by clear hw' ; go_simp⟩) hH ?_
      simp only [Act.put]
      refine wpAnyH_take (i := 17) (v := .pointer (some ⟨ga, o + k * 4, none⟩)) rfl (by kernel_rfl) (by kernel_rfl) (by kernel_rfl) (fun _ _ _ h => h) (Or.inl ⟨by rfl, fun w' hw' => by clear hw' ; go_simp⟩) hH ?_
      simp only [Act.put]
      refine wpAnyH_take (i := 18) (v := .pointer (some ⟨ga, o + k * 4 + 2, none⟩)) rfl (by kernel_rfl) (by kernel_rfl) (by kernel_rfl) (fun _ _ _ h => h) (Or.inl ⟨by rfl, fun w' hw' => by clear hw' ; go_simp⟩) hH ?_
      simp only [Act.put]
      refine wpAnyH_take (i := 19) (v := .int .u64 (x2 : Int)) rfl (by kernel_rfl) (by kernel_rfl) (by kernel_rfl) (fun _ _ _ h => h) (Or.inl ⟨by rfl, fun w' hw' => by have h := HC2.out w' hw'; go_simp⟩) hH ?_
      simp only [Act.put]
      refine wpAnyH_take (i := 22) (v := .slice (some ⟨ga, o, none⟩) n c) rfl (by kernel_rfl) (by kernel_rfl) (by kernel_rfl) (fun _ _ _ h => h) (Or.inl ⟨by rfl, fun w' hw' => by clear hw' ; go_simp⟩) hH ?_
      simp only [Act.put]
      refine wpAnyH_take (i := 23) (v := .int .i64 (k : Int)) rfl (by kernel_rfl) (by kernel_rfl) (by kernel_rfl) (fun _ _ _ h => h) (Or.inl ⟨by rfl, fun w' hw' => by clear hw' ; go_simp⟩) hH ?_
      simp only [Act.put]
      refine wpAnyH_take (i := 24) (v := .pointer (some ⟨ga, o + k * 4, none⟩)) rfl (by kernel_rfl) (by kernel_rfl) (by kernel_rfl) (fun _ _ _ h => h) (Or.inl ⟨by rfl, fun w' hw' => by clear hw' ; go_simp⟩) hH ?_
      simp only [Act.put]
      refine wpAnyH_take (i := 25) (v := .pointer (some ⟨ga, o + k * 4 + 3, none⟩)) rfl (by kernel_rfl) (by kernel_rfl) (by kernel_rfl) (fun _ _ _ h => h) (Or.inl ⟨by rfl, fun w' hw' => by clear hw' ; go_simp⟩) hH ?_
      simp only [Act.put]
      refine wpAnyH_take (i := 26) (v := .int .u64 (x3 : Int)) rfl (by kernel_rfl) (by kernel_rfl) (by kernel_rfl) (fun _ _ _ h => h) (Or.inl ⟨by rfl, fun w' hw' => by have h := HC3.out w' hw'; go_simp⟩) hH ?_
      simp only [Act.put]
      refine wpAnyH_ready (rs := [6]) (by kernel_rfl) (by simp) ?_
      refine AllReadyH.cons rfl (fun K hK => ?_) AllReadyH.nil
      go_simp
      go_at_call 87
      refine (HE0.out _).mono ?_
      rintro e w2 ⟨rfl, hb2⟩
      go_wp2_with fail
      refine hK.out _ _ (Kp.call hb2 hH) (fun hH => ?_)
      clear hK K
      try simp only [Act.put]
      refine wpAnyH_take (i := 7) (v := .string (⟨Q.toArray⟩ ++ ⟨E0.toArray⟩)) rfl (by kernel_rfl) (by kernel_rfl) (by kernel_rfl) (fun _ _ _ h => h) (Or.inl ⟨by rfl, fun w' hw' => by clear hw' ; go_simp⟩) hH ?_
      simp only [Act.put]
      refine wpAnyH_ready (rs := [13]) (by kernel_rfl) (by simp) ?_
      refine AllReadyH.cons rfl (fun K hK => ?_) AllReadyH.nil
      go_simp
      go_at_call 87
      refine (HE1.out _).mono ?_
      rintro e w3 ⟨rfl, hb3⟩
      go_wp2_with fail
      refine hK.out _ _ (Kp.call hb3 hH) (fun hH => ?_)
      clear hK K
      try simp only [Act.put]
      refine wpAnyH_take (i := 14) (v := .string (⟨Q.toArray⟩ ++ ⟨E0.toArray⟩ ++ ⟨E1.toArray⟩)) rfl (by kernel_rfl) (by kernel_rfl) (by kernel_rfl) (fun _ _ _ h => h) (Or.inl ⟨by rfl, fun w' hw' => by clear hw' ; go_simp⟩) hH ?_
      simp only [Act.put]
      refine wpAnyH_ready (rs := [20]) (by kernel_rfl) (by simp) ?_
      refine AllReadyH.cons rfl (fun K hK => ?_) AllReadyH.nil
      go_simp
      go_at_call 87
      refine (HE2.out _).mono ?_
      rintro e w4 ⟨rfl, hb4⟩
      go_wp2_with fail
      refine hK.out _ _ (Kp.call hb4 hH) (fun hH => ?_)
      clear hK K
      try simp only [Act.put]
      refine wpAnyH_take (i := 21) (v := .string (⟨Q.toArray⟩ ++ ⟨E0.toArray⟩ ++ ⟨E1.toArray⟩ ++ ⟨E2.toArray⟩)) rfl (by kernel_rfl) (by kernel_rfl) (by kernel_rfl) (fun _ _ _ h => h) (Or.inl ⟨by rfl, fun w' hw' => by clear hw' ; go_simp⟩) hH ?_
      simp only [Act.put]
      refine wpAnyH_ready (rs := [27]) (by kernel_rfl) (by simp) ?_
      refine AllReadyH.cons rfl (fun K hK => ?_) AllReadyH.nil
      go_simp
      go_at_call 87
      refine (HE3.out _).mono ?_
      rintro e w5 ⟨rfl, hb5⟩
      go_wp2_with fail
      refine hK.out _ _ (Kp.call hb5 hH) (fun hH => ?_)
      clear hK K
      try simp only [Act.put]
      refine wpAnyH_take (i := 28) (v := .string (⟨Q.toArray⟩ ++ ⟨E0.toArray⟩ ++ ⟨E1.toArray⟩ ++ ⟨E2.toArray⟩ ++ ⟨E3.toArray⟩)) rfl (by kernel_rfl) (by kernel_rfl) (by kernel_rfl) (fun _ _ _ h => h) (Or.inl ⟨by rfl, fun w' hw' => by clear hw' ; go_simp⟩) hH ?_
      simp only [Act.put]
      refine wpAnyH_ready (rs := [29]) (by kernel_rfl) (by simp) ?_
      refine AllReadyH.cons rfl (fun K hK => ?_) AllReadyH.nil
      go_simp
      refine hK.out _ _ (hH) (fun hH => ?_)
      clear hK K
      try simp only [Act.put]
      refine wpAnyH_done (by kernel_rfl) ?_ _
      try simp only [Act.put]
      go_wp2_with fail
      go_roundw
      case rel => exact ⟨k + 1, by omega, by go_num, by rw [HCAT.out, ← cat_mk, ← cat_mk, ← cat_mk, ← cat_mk], hid (fun j hj _ => rfl), HBE.out.trans (Below.mono hH hsz)⟩
      case measure => simp [intOf]; omega
    · obtain rfl : k = n := by omega
      have hfin : pre trB l k = l.flatMap (fun x => (trB x).getD []) := by
        unfold pre
        rw [List.take_of_length_le (by rw [HN.out]; exact Nat.le_refl _)]
      have HALL := hid (head_all (f := fun x => (trB x).isSome) (fun j hj => HP.out j hj (by rw [HN.out]; exact hj)))
      have HY := hid (HYES.out HALL.out)
      rw [← hfin] at HY
      generalize pre trB l k = Q at *
      clear hfin hbe
      go_wp2_with fail
      go_ret2
      rw [HY.out]
      exact ⟨rfl, HBE.out⟩
theorem rputt_list (A : Option Addr) (l : List Tr) (n c B : Nat) (w : World) (hr : Rd w B A (rows Tr.cells l)) (hn : n = l.length) (hnc : n ≤ c) (hB : B ≤ w.heap.size) (hok : ∀ x ∈ l, x.ok) :
    Calls Try.prog 50 #[.slice A n c] w (SN w (putL trB l)) := by
  unfold putL
  rw [← hn]
  by_cases h : n = 0 ∨ 4 < n
  · rw [if_pos h]
    exact rputt_none A n c w h
  · rw [if_neg h]
    exact rputt_some A l n c B w hr hn (by omega) (by omega) hnc hB hok
end Go.Proofs.Ytbofabmgfkploaa
