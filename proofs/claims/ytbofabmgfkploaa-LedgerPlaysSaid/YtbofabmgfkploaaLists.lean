/-
  The walks of package event's lists: joined, PutAccounts, Accounts, PutTransfers, Transfers, PutIDs, IDs.
-/
import Derived.Test.YtbofabmgfkploaaPieces
import Derived.Test.YtbofabmgfkploaaJoin
import Derived.Test.YtbofabmgfkploaaEachpa
import Derived.Test.YtbofabmgfkploaaEachpt
import Derived.Test.YtbofabmgfkploaaEachpi
import Derived.Test.YtbofabmgfkploaaEachta
import Derived.Test.YtbofabmgfkploaaEachtt
import Derived.Test.YtbofabmgfkploaaEachti
namespace Go.Proofs.Ytbofabmgfkploaa
open Go.RowKit
set_option maxRecDepth 10000

set_option maxHeartbeats 400000 in
theorem joined_no (A : Option Addr) (n c : Nat) (w : World) : Calls Try.prog 51 #[.slice A n c, .bool false] w (SN w ([], 1)) := by
  go_enter Try.func51, Try.ntmps51
  go_wp2_with fail
  go_ret2
  exact ⟨rfl, Below.refl _ _⟩
set_option maxHeartbeats 400000 in
theorem joined_yes (A : Option Addr) (l : List (List UInt8)) (n c B : Nat) (w : World) (hr : Rd w B A (rows Sc l)) (hB : B ≤ w.heap.size) (hn : n = l.length) (h0 : 0 < n) (hc : n ≤ c) (h4 : n ≤ 4) (hf : l.flatten.length ≤ 140737488355328) :
    Calls Try.prog 51 #[.slice A n c, .bool true] w (SN w (l.flatten, 0)) := by
  rw [rows_Sc] at hr
  have HJ := hid (join_any A l n c B w hr hB hn h0 hc hf (by omega))
  generalize l.flatten = F at *
  clear hf hn hr
  go_enter Try.func51, Try.ntmps51
  go_wp2_with (go_at_call 88; refine HJ.out.mono ?_; rintro e w1 ⟨rfl, hb⟩)
  go_ret2
  exact ⟨rfl, hb⟩
theorem joined_any (A : Option Addr) (r : List (List UInt8) × Bool) (c B : Nat) (w : World) (hr : Rd w B A (rows Sc r.1)) (hB : B ≤ w.heap.size) (h0 : r.2 = true → 0 < r.1.length) (hc : r.1.length ≤ c) (h4 : r.1.length ≤ 4) (hf : r.1.flatten.length ≤ 140737488355328) :
    Calls Try.prog 51 #[.slice A r.1.length c, .bool r.2] w (SN w (if r.2 = true then (r.1.flatten, 0) else ([], 1))) := by
  obtain ⟨l, b⟩ := r
  cases b
  · exact joined_no A l.length c w
  · exact joined_yes A l l.length c B w hr hB rfl (h0 rfl) hc h4 hf

theorem eachP_put {α : Type} (f : α → Option (List UInt8)) (l : List α) : (if (eachP f l).2 = true then ((eachP f l).1.flatten, 0) else ([], 1)) = putL f l := by
  unfold eachP putL
  by_cases h : l.length = 0 ∨ 4 < l.length
  · rw [if_pos h, if_pos h]
    rfl
  · rw [if_neg h, if_neg h]
    cases h2 : l.all fun x => (f x).isSome
    · rfl
    · simp [List.flatMap]
theorem eachP_facts {α : Type} (f : α → Option (List UInt8)) (l : List α) (m : Nat) (hm : ∀ x ∈ l, ((f x).getD []).length ≤ m) (hm2 : m ≤ 100) : ((eachP f l).2 = true → 0 < (eachP f l).1.length) ∧ (eachP f l).1.length ≤ 4 ∧ (eachP f l).1.flatten.length ≤ 140737488355328 := by
  unfold eachP
  by_cases h : l.length = 0 ∨ 4 < l.length
  · rw [if_pos h]
    simp
  · rw [if_neg h]
    cases h2 : l.all fun x => (f x).isSome
    · simp
    · have hfl : ∀ k : List α, (∀ x ∈ k, ((f x).getD []).length ≤ m) → (k.map fun x => (f x).getD []).flatten.length ≤ k.length * m := by
        intro k
        induction k with
        | nil => intro _; simp
        | cons x r ih =>
          intro hk
          have h1 := ih (fun y hy => hk y (by simp [hy]))
          have h3 := hk x (by simp)
          rw [List.map_cons, List.flatten_cons, List.length_append, List.length_cons, Nat.add_mul]
          omega
      have h3 := hfl l hm
      have h4 : l.length * m ≤ 4 * 100 := Nat.mul_le_mul (by omega) hm2
      refine ⟨fun _ => ?_, ?_, ?_⟩
      · show 0 < (l.map _).length
        rw [List.length_map]
        omega
      · show (l.map _).length ≤ 4
        rw [List.length_map]
        omega
      · show (l.map _).flatten.length ≤ _
        omega
theorem askB_len (x : Ac) : ((askB x).getD []).length ≤ 9 := by
  unfold askB
  split
  · simp [le_len]
  · simp
theorem trB_len (x : Tr) : ((trB x).getD []).length = 32 := by simp [trB, le_len]
theorem idB_len (x : Nat) : ((idB x).getD []).length = 8 := by simp [idB, le_len]

set_option maxHeartbeats 400000 in
theorem puta_list (A : Option Addr) (l : List Ac) (n c B : Nat) (w : World) (hr : Rd w B A (rows Ac.cells l)) (hn : n = l.length) (hnc : n ≤ c) (hB : B ≤ w.heap.size) (hok : ∀ x ∈ l, x.ok) :
    Calls Try.prog 24 #[.slice A n c] w (SN w (putL askB l)) := by
  have HE := hid (eachpa_any A l n c B w hr hn hnc hB hok)
  obtain ⟨h0, h4, hf⟩ := eachP_facts askB l 9 (fun x _ => askB_len x) (by omega)
  rw [← eachP_put]
  generalize eachP askB l = r at *
  have HJ := hid (fun A c B W (hr : Rd W B A (rows Sc r.1)) hB hc => joined_any A r c B W hr hB h0 hc h4 hf)
  obtain ⟨ss, b⟩ := r
  have HJ2 : Hid (∀ (A : Option Addr) (c B : Nat) (W : World), Rd W B A (rows Sc ss) → B ≤ W.heap.size → ss.length ≤ c → Calls Try.prog 51 #[.slice A ss.length c, .bool b] W (SN W (if b = true then (ss.flatten, 0) else ([], 1)))) := hid HJ.out
  obtain ⟨q, hq⟩ : ∃ q : List UInt8 × Int, (if b = true then (ss.flatten, 0) else ([], 1)) = q := ⟨_, rfl⟩
  rw [hq] at HJ2
  have hq2 : (if (ss, b).2 = true then ((ss, b).1.flatten, 0) else ([], 1)) = q := hq
  rw [hq2]
  clear hq2
  clear HJ hq h0 h4 hf hr hn hok
  go_enter Try.func24, Try.ntmps24
  go_wp2_with (first
    | (go_at_call 60; refine HE.out.mono ?_; rintro e w1 ⟨A1, c1, rfl, hc1, hrd1, hb1, -⟩)
    | (go_at_call 51; refine (HJ2.out _ _ _ _ hrd1 (Nat.le_refl _) hc1).mono ?_; rintro e w2 ⟨rfl, hb2⟩))
  go_ret2
  exact ⟨rfl, hb1.trans (hb2.mono hb1.size)⟩

set_option maxHeartbeats 400000 in
theorem taka_list (s : ByteArray) (w : World) (hs : s.size ≤ 140737488355328) : Calls Try.prog 27 #[.string s] w (LB Ac.cells w (takL 9 decA (sb s))) := by
  have HP := hid (pieces_any s 9 w (by omega) (by omega) hs)
  have HE := hid (fun A n c B W (hr : Rd W B A (rows Sc (pcs 9 5 (sb s)))) (hn : n = (pcs 9 5 (sb s)).length) hnc hB => eachta_any A (pcs 9 5 (sb s)) n c B W hr hn hnc hB)
  rw [eachT_pcs 9 (by omega)] at HE
  generalize pcs 9 5 (sb s) = Q at *
  generalize takL 9 decA (sb s) = r at *
  clear hs
  go_enter Try.func27, Try.ntmps27
  go_wp2_with (first
    | (go_at_call 66; refine HP.out.mono ?_; rintro e w1 ⟨A1, m1, c1, rfl, hm1, hc1, hrd1, hb1⟩; have HM1 := hid hm1; clear hm1)
    | (go_at_call 65; refine (HE.out _ _ _ _ _ hrd1 HM1.out hc1 (Nat.le_refl _)).mono ?_; rintro e w2 ⟨A2, c2, rfl, hc2, hrd2, hb2, hn2⟩))
  go_ret2
  exact ⟨A2, c2, rfl, hc2, hrd2, hb1.trans (hb2.mono hb1.size), hn2.le hb1.size⟩

set_option maxHeartbeats 400000 in
theorem putt_list (A : Option Addr) (l : List Tr) (n c B : Nat) (w : World) (hr : Rd w B A (rows Tr.cells l)) (hn : n = l.length) (hnc : n ≤ c) (hB : B ≤ w.heap.size) (hok : ∀ x ∈ l, x.ok) :
    Calls Try.prog 25 #[.slice A n c] w (SN w (putL trB l)) := by
  have HE := hid (eachpt_any A l n c B w hr hn hnc hB hok)
  obtain ⟨h0, h4, hf⟩ := eachP_facts trB l 32 (fun x _ => Nat.le_of_eq (trB_len x)) (by omega)
  rw [← eachP_put]
  generalize eachP trB l = r at *
  have HJ := hid (fun A c B W (hr : Rd W B A (rows Sc r.1)) hB hc => joined_any A r c B W hr hB h0 hc h4 hf)
  obtain ⟨ss, b⟩ := r
  have HJ2 : Hid (∀ (A : Option Addr) (c B : Nat) (W : World), Rd W B A (rows Sc ss) → B ≤ W.heap.size → ss.length ≤ c → Calls Try.prog 51 #[.slice A ss.length c, .bool b] W (SN W (if b = true then (ss.flatten, 0) else ([], 1)))) := hid HJ.out
  obtain ⟨q, hq⟩ : ∃ q : List UInt8 × Int, (if b = true then (ss.flatten, 0) else ([], 1)) = q := ⟨_, rfl⟩
  rw [hq] at HJ2
  have hq2 : (if (ss, b).2 = true then ((ss, b).1.flatten, 0) else ([], 1)) = q := hq
  rw [hq2]
  clear hq2
  clear HJ hq h0 h4 hf hr hn hok
  go_enter Try.func25, Try.ntmps25
  go_wp2_with (first
    | (go_at_call 63; refine HE.out.mono ?_; rintro e w1 ⟨A1, c1, rfl, hc1, hrd1, hb1, -⟩)
    | (go_at_call 51; refine (HJ2.out _ _ _ _ hrd1 (Nat.le_refl _) hc1).mono ?_; rintro e w2 ⟨rfl, hb2⟩))
  go_ret2
  exact ⟨rfl, hb1.trans (hb2.mono hb1.size)⟩

set_option maxHeartbeats 400000 in
theorem takt_list (s : ByteArray) (w : World) (hs : s.size ≤ 140737488355328) : Calls Try.prog 30 #[.string s] w (LB Tr.cells w (takL 32 decT (sb s))) := by
  have HP := hid (pieces_any s 32 w (by omega) (by omega) hs)
  have HE := hid (fun A n c B W (hr : Rd W B A (rows Sc (pcs 32 5 (sb s)))) (hn : n = (pcs 32 5 (sb s)).length) hnc hB => eachtt_any A (pcs 32 5 (sb s)) n c B W hr hn hnc hB)
  rw [eachT_pcs 32 (by omega)] at HE
  generalize pcs 32 5 (sb s) = Q at *
  generalize takL 32 decT (sb s) = r at *
  clear hs
  go_enter Try.func30, Try.ntmps30
  go_wp2_with (first
    | (go_at_call 66; refine HP.out.mono ?_; rintro e w1 ⟨A1, m1, c1, rfl, hm1, hc1, hrd1, hb1⟩; have HM1 := hid hm1; clear hm1)
    | (go_at_call 70; refine (HE.out _ _ _ _ _ hrd1 HM1.out hc1 (Nat.le_refl _)).mono ?_; rintro e w2 ⟨A2, c2, rfl, hc2, hrd2, hb2, hn2⟩))
  go_ret2
  exact ⟨A2, c2, rfl, hc2, hrd2, hb1.trans (hb2.mono hb1.size), hn2.le hb1.size⟩

set_option maxHeartbeats 400000 in
theorem puti_list (A : Option Addr) (l : List Nat) (n c B : Nat) (w : World) (hr : Rd w B A (rows Ic l)) (hn : n = l.length) (hnc : n ≤ c) (hB : B ≤ w.heap.size) (hok : ∀ x ∈ l, U64 x) :
    Calls Try.prog 21 #[.slice A n c] w (SN w (putL idB l)) := by
  have HE := hid (eachpi_any A l n c B w hr hn hnc hB hok)
  obtain ⟨h0, h4, hf⟩ := eachP_facts idB l 8 (fun x _ => Nat.le_of_eq (idB_len x)) (by omega)
  rw [← eachP_put]
  generalize eachP idB l = r at *
  have HJ := hid (fun A c B W (hr : Rd W B A (rows Sc r.1)) hB hc => joined_any A r c B W hr hB h0 hc h4 hf)
  obtain ⟨ss, b⟩ := r
  have HJ2 : Hid (∀ (A : Option Addr) (c B : Nat) (W : World), Rd W B A (rows Sc ss) → B ≤ W.heap.size → ss.length ≤ c → Calls Try.prog 51 #[.slice A ss.length c, .bool b] W (SN W (if b = true then (ss.flatten, 0) else ([], 1)))) := hid HJ.out
  obtain ⟨q, hq⟩ : ∃ q : List UInt8 × Int, (if b = true then (ss.flatten, 0) else ([], 1)) = q := ⟨_, rfl⟩
  rw [hq] at HJ2
  have hq2 : (if (ss, b).2 = true then ((ss, b).1.flatten, 0) else ([], 1)) = q := hq
  rw [hq2]
  clear hq2
  clear HJ hq h0 h4 hf hr hn hok
  go_enter Try.func21, Try.ntmps21
  go_wp2_with (first
    | (go_at_call 52; refine HE.out.mono ?_; rintro e w1 ⟨A1, c1, rfl, hc1, hrd1, hb1, -⟩)
    | (go_at_call 51; refine (HJ2.out _ _ _ _ hrd1 (Nat.le_refl _) hc1).mono ?_; rintro e w2 ⟨rfl, hb2⟩))
  go_ret2
  exact ⟨rfl, hb1.trans (hb2.mono hb1.size)⟩

set_option maxHeartbeats 400000 in
theorem taki_list (s : ByteArray) (w : World) (hs : s.size ≤ 140737488355328) : Calls Try.prog 33 #[.string s] w (LB Ic w (takL 8 decI (sb s))) := by
  have HP := hid (pieces_any s 8 w (by omega) (by omega) hs)
  have HE := hid (fun A n c B W (hr : Rd W B A (rows Sc (pcs 8 5 (sb s)))) (hn : n = (pcs 8 5 (sb s)).length) hnc hB => eachti_any A (pcs 8 5 (sb s)) n c B W hr hn hnc hB)
  rw [eachT_pcs 8 (by omega)] at HE
  generalize pcs 8 5 (sb s) = Q at *
  generalize takL 8 decI (sb s) = r at *
  clear hs
  go_enter Try.func33, Try.ntmps33
  go_wp2_with (first
    | (go_at_call 66; refine HP.out.mono ?_; rintro e w1 ⟨A1, m1, c1, rfl, hm1, hc1, hrd1, hb1⟩; have HM1 := hid hm1; clear hm1)
    | (go_at_call 75; refine (HE.out _ _ _ _ _ hrd1 HM1.out hc1 (Nat.le_refl _)).mono ?_; rintro e w2 ⟨A2, c2, rfl, hc2, hrd2, hb2, hn2⟩))
  go_ret2
  exact ⟨A2, c2, rfl, hc2, hrd2, hb1.trans (hb2.mono hb1.size), hn2.le hb1.size⟩
end Go.Proofs.Ytbofabmgfkploaa
