/-
  The walk of the document's PutAccounts.
-/
import Derived.Test.YtjehghikmbalpaaRef3
import Derived.Deep.RegionHeld
namespace Go.Proofs.Ytjehghikmbalpaa
open Go.RowKit
set_option maxRecDepth 10000

set_option maxHeartbeats 1000000 in
theorem rputa_none (A : Option Addr) (n c : Nat) (w : World) (h : n = 0 ∨ 4 < n) : Calls Try.prog 10 #[.slice A n c] w (SN w ([], 1)) := by
  have HM := hid (many_any (n : Int))
  rw [decide_eq_false (show ¬ (1 ≤ (n : Int) ∧ (n : Int) ≤ 4) by omega)] at HM
  clear h
  go_enter Try.func10, Try.ntmps10
  go_wp2_with (go_at_call 32; refine (HM.out _).mono ?_; rintro e w' ⟨rfl, rfl⟩)
  go_ret2
  exact ⟨rfl, Below.refl _ _⟩

set_option maxHeartbeats 1000000 in
theorem rputa_some (A : Option Addr) (l : List Ac) (n c B : Nat) (w : World) (hr : Rd w B A (rows Ac.cells l)) (hn : n = l.length) (h0 : 0 < n) (h4 : n ≤ 4) (hnc : n ≤ c) (hB : B ≤ w.heap.size) (hok : ∀ x ∈ l, x.ok) :
    Calls Try.prog 10 #[.slice A n c] w (SN w (if l.all (fun x => (askB x).isSome) then (l.flatMap (fun x => (askB x).getD []), 0) else ([], 1))) := by
  have hlen := rows_len (C := Ac.cells) Ac.len l
  obtain ⟨ga, o, rfl, hga, hcell⟩ := id hr (by intro e; rw [e] at hlen; simp at hlen; omega)
  clear hcell
  have HM := hid (many_any (n : Int))
  rw [decide_eq_true (show (1 ≤ (n : Int) ∧ (n : Int) ≤ 4) by omega)] at HM
  have HR := hid hr
  have HN := hid hn
  have HOK := hid (fun k (hk : k < l.length) => hok l[k] (List.getElem_mem hk))
  obtain ⟨r, hr0⟩ : ∃ r : List UInt8 × Int, (if l.all (fun x => (askB x).isSome) then (l.flatMap (fun x => (askB x).getD []), 0) else ([], 1)) = r := ⟨_, rfl⟩
  rw [hr0]
  have HYES : Hid ((l.all fun x => (askB x).isSome) = true → r = (l.flatMap (fun x => (askB x).getD []), 0)) := hid fun h => by rw [← hr0, if_pos h]
  have HNO : Hid ((l.all fun x => (askB x).isSome) = false → r = ([], 1)) := hid fun h => by rw [← hr0, if_neg (by rw [h]; decide)]
  clear hr0 hr hn hok hlen
  go_enter Try.func10, Try.ntmps10
  go_wp2_with (go_at_call 32; refine (HM.out _).mono ?_; rintro e w' ⟨rfl, rfl⟩)
  go_loopw [4, 5] (fun sv iv wr => ∃ k : Nat, k ≤ n ∧ iv = .int .i64 (k : Int) ∧ sv = .string ⟨(pre askB l k).toArray⟩ ∧ Hid (∀ j (hj : j < l.length), j < k → (askB l[j]).isSome = true) ∧ Below w.heap.size w wr) (fun _ iv _ => n - (intOf iv).toNat)
  case atStart => exact ⟨0, by omega, rfl, rfl, hid (by intro j _ hj; omega), Below.refl _ _⟩
  case round =>
    obtain ⟨k, hk, rfl, rfl, HP, hbe⟩ := hrel
    have HBE := hid hbe
    have hsz := hbe.size
    have hple := pre_len askB l 9 (fun x => askB_len x) k
    have hple2 : (pre askB l k).length ≤ 128 := by
      have : k * 9 ≤ 4 * 9 := Nat.mul_le_mul_right _ (by omega)
      omega
    clear hple
    by_cases hlt : k < n
    · have hkl : k < l.length := by rw [← HN.out]; exact hlt
      have hrd := HR.out.below hbe hB
      have hrg := hrd.range Ac.len k hkl
      have HPS := hid (pre_succ askB l k hkl)
      have hokk := HOK.out k hkl
      obtain ⟨hx0, -⟩ := hokk
      have hc0 := hrg 0 _ rfl
      have hc1 := hrg 1 _ rfl
      rw [Nat.add_zero] at hc0
      have hcK : ∀ W : World, Below wr.heap.size wr W → W.cell? ⟨ga, o + k * 4, none⟩ = some (.int .u64 (l[k].id : Int)) := fun W hW => by
        rw [hW.cell (p := ⟨ga, o + k * 4, none⟩) (by show ga < _; omega)]
        exact hc0
      have HCK := hid hcK
      have HE := hid (fun W => eight_any l[k].id W hx0)
      have HF := hid (fun W => flags_any l[k].flags W)
      have hflag : flagS l[k].flags = if (askB l[k]).isSome then ([UInt8.ofNat l[k].flags.toNat], true) else ([], false) := by
        unfold flagS askB
        split <;> rfl
      have HTL : Hid ((askB l[k]).isSome = false → (l.all fun x => (askB x).isSome) = false) := hid fun h => tail_all hkl h
      have HHD : Hid ((askB l[k]).isSome = true → ∀ j (hj : j < l.length), j < k + 1 → (askB l[j]).isSome = true) := hid fun h j hj hjk => by
        by_cases e : j = k
        · subst e; exact h
        · exact HP.out j hj (by omega)
      have hps2 : (askB l[k]).isSome = true → pre askB l (k + 1) = pre askB l k ++ le l[k].id 8 ++ [UInt8.ofNat l[k].flags.toNat] := fun h => by
        rw [HPS.out, List.append_assoc]
        congr 1
        unfold askB at h ⊢
        split at h
        · rename_i h2
          rw [if_pos h2]
          rfl
        · cases h
      generalize pre askB l k = Q at *
      have h81 := le_len 8 l[k].id
      rw [hflag] at HF
      have HCAT := hid hps2
      clear hps2 HPS hrd hrg hbe hx0 hc0 hcK hflag
      generalize le l[k].id 8 = E at *
      generalize UInt8.ofNat l[k].flags.toNat = b at *
      generalize l[k].id = x at *
      generalize l[k].flags = fl at *
      generalize hok : (askB l[k]).isSome = y at *
      clear hok
      have hq1 : ¬ (9223372036854775807 < Q.length + E.length) := by omega
      have hq2 : ¬ (9223372036854775807 < Q.length + E.length + 1) := by omega
      have hq2' : ¬ (9223372036854775807 < Q.length + (E.length + 1)) := by omega
      clear h81
      cases y
      · have HF' : Hid (∀ W : World, Calls Try.prog 33 #[.int .i64 fl] W (SB W ([], false))) := hid HF.out
        clear HF HCAT
        go_wp2_with (go_at_call 33; refine (HF'.out _).mono ?_; rintro e w2 ⟨rfl, hb2⟩)
        go_ret2
        rw [HNO.out (HTL.out (by first | rfl | trivial))]
        exact ⟨rfl, HBE.out.trans (hb2.mono hsz)⟩
      · have HF' : Hid (∀ W : World, Calls Try.prog 33 #[.int .i64 fl] W (SB W ([b], true))) := hid HF.out
        have HCAT' := hid (HCAT.out rfl)
        have HHD' := hid (HHD.out rfl)
        clear HF HCAT HHD HTL
        go_wp2_with (first
          | (go_at_call 33; refine (HF'.out _).mono ?_; rintro e w2 ⟨rfl, hb2⟩; have hc2 := HCK.out w2 hb2)
          | (go_at_call 34; refine (HE.out _).mono ?_; rintro e w3 ⟨rfl, hb3⟩))
        exact ⟨⟨k + 1, by omega, by go_num, by rw [HCAT'.out, ← cat_mk, ← cat_mk], HHD', HBE.out.trans ((hb2.mono hsz).trans (hb3.mono (Nat.le_trans hsz hb2.size)))⟩, by simp [intOf]; omega⟩
    · obtain rfl : k = n := by omega
      have hfin : pre askB l k = l.flatMap (fun x => (askB x).getD []) := by
        unfold pre
        rw [List.take_of_length_le (by rw [HN.out]; exact Nat.le_refl _)]
      have HALL := hid (head_all (f := fun x => (askB x).isSome) (fun j hj => HP.out j hj (by rw [HN.out]; exact hj)))
      have HY := hid (HYES.out HALL.out)
      rw [← hfin] at HY
      generalize pre askB l k = Q at *
      clear hfin hbe
      go_wp2_with fail
      go_ret2
      rw [HY.out]
      exact ⟨rfl, HBE.out⟩
theorem rputa_list (A : Option Addr) (l : List Ac) (n c B : Nat) (w : World) (hr : Rd w B A (rows Ac.cells l)) (hn : n = l.length) (hnc : n ≤ c) (hB : B ≤ w.heap.size) (hok : ∀ x ∈ l, x.ok) :
    Calls Try.prog 10 #[.slice A n c] w (SN w (putL askB l)) := by
  unfold putL
  rw [← hn]
  by_cases h : n = 0 ∨ 4 < n
  · rw [if_pos h]
    exact rputa_none A n c w h
  · rw [if_neg h]
    exact rputa_some A l n c B w hr hn (by omega) (by omega) hnc hB hok
end Go.Proofs.Ytjehghikmbalpaa
