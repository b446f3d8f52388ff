/-
  The walks of package event's lists: joined, PutAccounts, Accounts, PutTransfers, Transfers, PutIDs, IDs.
-/
import Derived.Test.YtgednnjmcjhfmaaGreatDoorM07
import Derived.Test.YtgednnjmcjhfmaaGreatDoorM08
import Derived.Test.YtgednnjmcjhfmaaGreatDoorM02
import Derived.Deep.RegionHeld
namespace Go.Proofs.YtgednnjmcjhfmaaGreatDoor
open Go.RowKit
set_option maxRecDepth 10000
set_option maxHeartbeats 80000000
theorem joined_no (A : Option Addr) (n c : Nat) (w : World) : Calls Tryz.prog 141 #[.slice A n c, .bool false] w (SN w ([], 1)) := by
 go_enter Tryz.func141, Tryz.ntmps141
 go_wp2_with fail
 go_ret2
 exact ⟨rfl, Below.refl _ _⟩
theorem joined_yes (A : Option Addr) (l : List (List UInt8)) (n c B : Nat) (w : World) (hr : Rd w B A (rows Sc l)) (hB : B ≤ w.heap.size) (hn : n = l.length) (h0 : 0 < n) (hc : n ≤ c) (h4 : n ≤ 4) (hf : l.flatten.length ≤ 140737488355328) :
  Calls Tryz.prog 141 #[.slice A n c, .bool true] w (SN w (l.flatten, 0)) := by
 rw [rows_Sc] at hr
 have HJ := hid (join_any A l n c B w hr hB hn h0 hc hf (by omega))
 generalize l.flatten = F at *
 clear hf hn hr
 go_enter Tryz.func141, Tryz.ntmps141
 go_wp2_with (go_at_call 155; refine HJ.out.mono ?_; rintro e w1 ⟨rfl, hb⟩)
 go_ret2
 exact ⟨rfl, hb⟩
theorem joined_any (A : Option Addr) (r : List (List UInt8) × Bool) (c B : Nat) (w : World) (hr : Rd w B A (rows Sc r.1)) (hB : B ≤ w.heap.size) (h0 : r.2 = true → 0 < r.1.length) (hc : r.1.length ≤ c) (h4 : r.1.length ≤ 4) (hf : r.1.flatten.length ≤ 140737488355328) :
  Calls Tryz.prog 141 #[.slice A r.1.length c, .bool r.2] w (SN w (if r.2 = true then (r.1.flatten, 0) else ([], 1))) := by
 obtain ⟨l, b⟩ := r
 cases b
 ·
  exact joined_no A l.length c w
 ·
  exact joined_yes A l l.length c B w hr hB rfl (h0 rfl) hc h4 hf
theorem eachP_put {α : Type} (f : α → Option (List UInt8)) (l : List α) : (if (eachP f l).2 = true then ((eachP f l).1.flatten, 0) else ([], 1)) = putL f l := by
 unfold eachP putL
 by_cases h : l.length = 0 ∨ 4 < l.length
 ·
  rw [if_pos h, if_pos h]
  rfl
 ·
  rw [if_neg h, if_neg h]
  cases h2 : l.all fun x => (f x).isSome
  ·
   rfl
  ·
   simp [List.flatMap]
theorem eachP_facts {α : Type} (f : α → Option (List UInt8)) (l : List α) (m : Nat) (hm : ∀ x ∈ l, ((f x).getD []).length ≤ m) (hm2 : m ≤ 100) : ((eachP f l).2 = true → 0 < (eachP f l).1.length) ∧ (eachP f l).1.length ≤ 4 ∧ (eachP f l).1.flatten.length ≤ 140737488355328 := by
 unfold eachP
 by_cases h : l.length = 0 ∨ 4 < l.length
 ·
  rw [if_pos h]
  simp
 ·
  rw [if_neg h]
  cases h2 : l.all fun x => (f x).isSome
  ·
   simp
  ·
   have hfl : ∀ k : List α, (∀ x ∈ k, ((f x).getD []).length ≤ m) → (k.map fun x => (f x).getD []).flatten.length ≤ k.length * m := by
    intro k
    induction k with
    | nil => intro _; simp
    | cons x r ih =>
     intro hk
     have h1 := ih (fun y hy => hk y (by simp [hy]))
     have h3 := hk x (by simp)
     rw [List.map_cons, List.flatten_cons, List.length_append, List.length_cons, Nat.add_mul]
     omega
   have h3 := hfl l hm
   have h4 : l.length * m ≤ 4 * 100 := Nat.mul_le_mul (by omega) hm2
   refine ⟨fun _ => ?_, ?_, ?_⟩
   ·
    show 0 < (l.map _).length
    rw [List.length_map]
    omega
   ·
    show (l.map _).length ≤ 4
    rw [List.length_map]
    omega
   ·
    show (l.map _).flatten.length ≤ _
    omega
theorem trB_len (x : Tr) : ((trB x).getD []).length = 32 := by simp [trB, le_len]
theorem taka_list (s : ByteArray) (w : World) (hs : s.size ≤ 140737488355328) : Calls Tryz.prog 86 #[.string s] w (LB Ac.cells w (takL 9 decA (sb s))) := by
 have HP := hid (pieces_any s 9 w (by omega) (by omega) hs)
 have HE := hid (fun A n c B W (hr : Rd W B A (rows Sc (pcs 9 5 (sb s)))) (hn : n = (pcs 9 5 (sb s)).length) hnc hB => eachta_any A (pcs 9 5 (sb s)) n c B W hr hn hnc hB)
 rw [eachT_pcs 9 (by omega)] at HE
 generalize pcs 9 5 (sb s) = Q at *
 generalize takL 9 decA (sb s) = r at *
 clear hs
 go_enter Tryz.func86, Tryz.ntmps86
 go_wp2_with (first
  | (go_at_call 121; refine HP.out.mono ?_; rintro e w1 ⟨A1, m1, c1, rfl, hm1, hc1, hrd1, hb1⟩; have HM1 := hid hm1; clear hm1)
  | (go_at_call 120; refine (HE.out _ _ _ _ _ hrd1 HM1.out hc1 (Nat.le_refl _)).mono ?_; rintro e w2 ⟨A2, c2, rfl, hc2, hrd2, hb2, hn2⟩))
 go_ret2
 exact ⟨A2, c2, rfl, hc2, hrd2, hb1.trans (hb2.mono hb1.size), hn2.le hb1.size⟩
theorem putt_list (A : Option Addr) (l : List Tr) (n c B : Nat) (w : World) (hr : Rd w B A (rows Tr.cells l)) (hn : n = l.length) (hnc : n ≤ c) (hB : B ≤ w.heap.size) (hok : ∀ x ∈ l, x.ok) :
  Calls Tryz.prog 111 #[.slice A n c] w (SN w (putL trB l)) := by
 have HE := hid (eachpt_any A l n c B w hr hn hnc hB hok)
 obtain ⟨h0, h4, hf⟩ := eachP_facts trB l 32 (fun x _ => Nat.le_of_eq (trB_len x)) (by omega)
 rw [← eachP_put]
 generalize eachP trB l = r at *
 have HJ := hid (fun A c B W (hr : Rd W B A (rows Sc r.1)) hB hc => joined_any A r c B W hr hB h0 hc h4 hf)
 obtain ⟨ss, b⟩ := r
 have HJ2 : Hid (∀ (A : Option Addr) (c B : Nat) (W : World), Rd W B A (rows Sc ss) → B ≤ W.heap.size → ss.length ≤ c → Calls Tryz.prog 141 #[.slice A ss.length c, .bool b] W (SN W (if b = true then (ss.flatten, 0) else ([], 1)))) := hid HJ.out
 obtain ⟨q, hq⟩ : ∃ q : List UInt8 × Int, (if b = true then (ss.flatten, 0) else ([], 1)) = q := ⟨_, rfl⟩
 rw [hq] at HJ2
 have hq2 : (if (ss, b).2 = true then ((ss, b).1.flatten, 0) else ([], 1)) = q := hq
 rw [hq2]
 clear hq2
 clear HJ hq h0 h4 hf hr hn hok
 go_enter Tryz.func111, Tryz.ntmps111
 go_wp2_with (first
  | (go_at_call 142; refine HE.out.mono ?_; rintro e w1 ⟨A1, c1, rfl, hc1, hrd1, hb1, -⟩)
  | (go_at_call 141; refine (HJ2.out _ _ _ _ hrd1 (Nat.le_refl _) hc1).mono ?_; rintro e w2 ⟨rfl, hb2⟩))
 go_ret2
 exact ⟨rfl, hb1.trans (hb2.mono hb1.size)⟩
theorem takt_list (s : ByteArray) (w : World) (hs : s.size ≤ 140737488355328) : Calls Tryz.prog 89 #[.string s] w (LB Tr.cells w (takL 32 decT (sb s))) := by
 have HP := hid (pieces_any s 32 w (by omega) (by omega) hs)
 have HE := hid (fun A n c B W (hr : Rd W B A (rows Sc (pcs 32 5 (sb s)))) (hn : n = (pcs 32 5 (sb s)).length) hnc hB => eachtt_any A (pcs 32 5 (sb s)) n c B W hr hn hnc hB)
 rw [eachT_pcs 32 (by omega)] at HE
 generalize pcs 32 5 (sb s) = Q at *
 generalize takL 32 decT (sb s) = r at *
 clear hs
 go_enter Tryz.func89, Tryz.ntmps89
 go_wp2_with (first
  | (go_at_call 121; refine HP.out.mono ?_; rintro e w1 ⟨A1, m1, c1, rfl, hm1, hc1, hrd1, hb1⟩; have HM1 := hid hm1; clear hm1)
  | (go_at_call 124; refine (HE.out _ _ _ _ _ hrd1 HM1.out hc1 (Nat.le_refl _)).mono ?_; rintro e w2 ⟨A2, c2, rfl, hc2, hrd2, hb2, hn2⟩))
 go_ret2
 exact ⟨A2, c2, rfl, hc2, hrd2, hb1.trans (hb2.mono hb1.size), hn2.le hb1.size⟩
theorem taki_list (s : ByteArray) (w : World) (hs : s.size ≤ 140737488355328) : Calls Tryz.prog 92 #[.string s] w (LB Ic w (takL 8 decI (sb s))) := by
 have HP := hid (pieces_any s 8 w (by omega) (by omega) hs)
 have HE := hid (fun A n c B W (hr : Rd W B A (rows Sc (pcs 8 5 (sb s)))) (hn : n = (pcs 8 5 (sb s)).length) hnc hB => eachti_any A (pcs 8 5 (sb s)) n c B W hr hn hnc hB)
 rw [eachT_pcs 8 (by omega)] at HE
 generalize pcs 8 5 (sb s) = Q at *
 generalize takL 8 decI (sb s) = r at *
 clear hs
 go_enter Tryz.func92, Tryz.ntmps92
 go_wp2_with (first
  | (go_at_call 121; refine HP.out.mono ?_; rintro e w1 ⟨A1, m1, c1, rfl, hm1, hc1, hrd1, hb1⟩; have HM1 := hid hm1; clear hm1)
  | (go_at_call 129; refine (HE.out _ _ _ _ _ hrd1 HM1.out hc1 (Nat.le_refl _)).mono ?_; rintro e w2 ⟨A2, c2, rfl, hc2, hrd2, hb2, hn2⟩))
 go_ret2
 exact ⟨A2, c2, rfl, hc2, hrd2, hb1.trans (hb2.mono hb1.size), hn2.le hb1.size⟩
theorem own_empty {w : World} {g B m : Nat} {T : TypeId} (h : Row w g T []) (hB : B ≤ g) : w.ownsRow B T m (.slice (some ⟨g, 0, none⟩) 0 0) 0 [] :=
 ⟨by simp, .inr ⟨g, 0, #[], rfl, hB, h, Nat.le_refl _, by simp, by simp, by simp⟩⟩
theorem own_rd {w : World} {B : Nat} {e : TypeId} {v : Value} {n m : Nat} {xs : List Value} (h : w.ownsRow B e m v n xs) : ∃ A c, v = .slice A n c ∧ n ≤ c ∧ Rd w w.heap.size A xs := by
 obtain ⟨h1, h2⟩ := h
 rcases h2 with ⟨rfl, h0⟩ | ⟨g, cap, cur, rfl, a, b, c, d, e1, f⟩
 ·
  have hx : xs = [] := List.eq_nil_of_length_eq_zero (by rw [h1, h0, Nat.zero_mul])
  subst hx h0
  exact ⟨none, 0, rfl, Nat.le_refl _, Rd.nil⟩
 ·
  refine ⟨_, cap, rfl, c, fun hne => ⟨g, 0, rfl, (Array.getElem?_eq_some_iff.1 b).1, fun j u hu => ?_⟩⟩
  rw [cell_of_row w g _ cur e (0, 0) b]
  rw [← f, List.getElem?_take] at hu
  split at hu
  ·
   simpa using hu
  ·
   cases hu
theorem at8_piece (n : Nat) (s : List UInt8) (k j : Nat) (h : j + 8 ≤ n) : at8 (piece n s k) j = at8 s (k * n + j) := by
 unfold at8 piece
 rw [List.drop_take, List.take_take, List.drop_drop, Nat.min_eq_left (by omega)]
/-- the first k pieces -/
def firstk {α : Type} (n : Nat) (d : List UInt8 → α) (s : List UInt8) (k : Nat) : List α := (List.range k).map fun i => d (piece n s i)
theorem firstk_len {α : Type} (n : Nat) (d : List UInt8 → α) (s : List UInt8) (k : Nat) : (firstk n d s k).length = k := by simp [firstk]
theorem firstk_succ {α : Type} (n : Nat) (d : List UInt8 → α) (s : List UInt8) (k : Nat) : firstk n d s (k + 1) = firstk n d s k ++ [d (piece n s k)] := by simp [firstk, List.range_succ]
theorem rows_firstk {α : Type} (C : α → List Value) (n : Nat) (d : List UInt8 → α) (s : List UInt8) (k : Nat) : rows C (firstk n d s (k + 1)) = rows C (firstk n d s k) ++ C (d (piece n s k)) := by
 rw [firstk_succ, rows_app]
 simp [rows]
theorem takL_yes {α : Type} (n : Nat) (d : List UInt8 → α) (s : List UInt8) (h1 : s.length % n = 0) (h2 : 1 ≤ s.length / n) (h4 : s.length / n ≤ 4) : takL n d s = (firstk n d s (s.length / n), true) := by
 unfold takL
 rw [if_neg (by omega)]
 rfl
theorem takL_no {α : Type} (n : Nat) (d : List UInt8 → α) (s : List UInt8) (h : s.length % n ≠ 0 ∨ ¬ (1 ≤ s.length / n ∧ s.length / n ≤ 4)) : takL n d s = ([], false) := by
 unfold takL
 rw [if_pos (by omega)]
/-- the bytes of the first k -/
def pre {α : Type} (f : α → Option (List UInt8)) (l : List α) (k : Nat) : List UInt8 := (l.take k).flatMap (fun x => (f x).getD [])
theorem pre_succ {α : Type} (f : α → Option (List UInt8)) (l : List α) (k : Nat) (h : k < l.length) : pre f l (k + 1) = pre f l k ++ (f l[k]).getD [] := by
 unfold pre
 rw [List.take_succ_eq_append_getElem h, List.flatMap_append, List.flatMap_cons, List.flatMap_nil, List.append_nil]
theorem pre_len {α : Type} (f : α → Option (List UInt8)) (l : List α) (m : Nat) (hm : ∀ x, ((f x).getD []).length ≤ m) (k : Nat) : (pre f l k).length ≤ k * m := by
 have key : ∀ r : List α, (r.flatMap (fun x => (f x).getD [])).length ≤ r.length * m := by
  intro r
  induction r with
  | nil => simp
  | cons x r ih =>
   have := hm x
   rw [List.flatMap_cons, List.length_append, List.length_cons, Nat.add_mul]
   omega
 have h1 := key (l.take k)
 have h2 : (l.take k).length * m ≤ k * m := Nat.mul_le_mul_right _ (by rw [List.length_take]; omega)
 unfold pre
 omega
theorem rtaki_none (s : ByteArray) (w : World) (hs : s.size ≤ 140737488355328) (h : s.size % 8 ≠ 0 ∨ ¬ (1 ≤ s.size / 8 ∧ s.size / 8 ≤ 4)) : Calls Tryz.prog 102 #[.string s] w (LB Ic w ([], false)) := by
 by_cases h1 : s.size % 8 = 0
 ·
  have h2 : ((s.size : Int) % 8) = 0 := by omega
  have HM := hid (many_any ((s.size : Int) / 8))
  rw [decide_eq_false (show ¬ (1 ≤ ((s.size : Int) / 8) ∧ ((s.size : Int) / 8) ≤ 4) by omega)] at HM
  clear h h1
  go_enter Tryz.func102, Tryz.ntmps102
  go_wp2_with (go_at_call 114; refine (HM.out _).mono ?_; rintro e w' ⟨rfl, rfl⟩)
  go_ret2
  exact LB_none _ (Below.refl _ _)
 ·
  have h2 : ¬ (((s.size : Int) % 8) = 0) := by omega
  clear h h1
  go_enter Tryz.func102, Tryz.ntmps102
  go_wp2_with fail
  go_ret2
  exact LB_none _ (Below.refl _ _)
theorem rtaki_some (s : ByteArray) (w : World) (q : Nat) (hq : s.size = q * 8) (h1 : 1 ≤ q) (h4 : q ≤ 4) : Calls Tryz.prog 102 #[.string s] w (LB Ic w (firstk 8 decI (sb s) q, true)) := by
 obtain ⟨i0, hi, hz0, hz1, hz2⟩ := info_parts u64Info
 have h2 : ((s.size : Int) % 8) = 0 := by omega
 have HM := hid (many_any ((s.size : Int) / 8))
 rw [decide_eq_true (show (1 ≤ ((s.size : Int) / 8) ∧ ((s.size : Int) / 8) ≤ 4) by omega)] at HM
 have HQ := hid hq
 have hsm : s.size ≤ 128 := by omega
 have HSL := hid (sb_len s)
 clear hq
 go_enter Tryz.func102, Tryz.ntmps102
 go_wp2_with (go_at_call 114; refine (HM.out _).mono ?_; rintro e w' ⟨rfl, rfl⟩)
 go_loopw [4, 5] (fun lv iv wr => ∃ (k i : Nat), k ≤ q ∧ iv = .int .i64 (i : Int) ∧ Hid (i = k * 8) ∧ wr.ownsRow w.heap.size 29 1 lv k (rows Ic (firstk 8 decI (sb s) k)) ∧ Below w.heap.size w wr) (fun _ iv _ => s.size - (intOf iv).toNat)
 case atStart => exact ⟨0, 0, by omega, rfl, hid (by omega), own_empty (Row.new _ _ #[]) (Nat.le_refl _), (Below.refl _ _).alloc (Nat.le_refl _) _⟩
 case round =>
  obtain ⟨k, i, hk, rfl, HI, hown, hbe⟩ := hrel
  have HBE := hid hbe
  have hsz := hbe.size
  obtain ⟨A, c, rfl, hkc, -⟩ := own_rd hown
  by_cases hlt : k < q
  ·
   have hlt2 : i + 8 ≤ s.size := by
    have h3 : (k + 1) * 8 ≤ q * 8 := Nat.mul_le_mul_right _ hlt
    have := HQ.out
    have := HI.out
    omega
   have hlt3 : (i : Int) < (s.size : Int) := by omega
   have HOW := hid hown
   have hcs : Ic (decI (piece 8 (sb s) k)) = [.int .u64 (at8 (sb s) i : Int)] := by
    unfold decI Ic
    rw [at8_piece 8 (sb s) k 0 (by omega), Nat.add_zero, ← HI.out]
   have HA0 := hid (fun W => at_any s i W (by omega) (by omega))
   generalize at8 (sb s) i = x0 at *
   have hrow := rows_firstk Ic 8 decI (sb s) k
   rw [hcs] at hrow
   have HRW := hid hrow
   clear hrow hcs hown hbe
   go_wp2_with (first
    | (go_at_call 135; refine (HA0.out _).mono ?_; rintro e w2 ⟨rfl, hb2⟩; have hk2 : Below wr.heap.size wr w2 := hb2; clear HA0)
    | (refine wpl_append rfl (.tmp 24) (.tmp 28) 137 rfl w.heap.size 29 i0 _ 1 8 Tryz.underlying137 hi hz0 hz1 hz2 rfl (by omega) (.slice A k c) k _ rfl ((own_below HOW.out hk2).alloc _) (w2.heap.size + 1) (some ⟨w2.heap.size, 0, none⟩) 1 1 [.int .u64 (x0 : Int)] rfl ?_ ?_ ?_ ?_ ?_ ?_ ?_; intro v6 w6 hown4 hb4 hg4; rw [← HRW.out] at hown4; have HO4 := hid hown4; have HB4 := hid (((HBE.out.trans (Below.mono hk2 hsz)).alloc (Nat.le_trans hsz hk2.size) _).trans hb4); clear hown4 hb4 hg4))
   rotate_left
   ·
    exact hid (Row.rd (cs := [.int .u64 (x0 : Int)]) (Row.new _ _ _) (Nat.lt_succ_self _))
   ·
    exact hid (by first | trivial | rfl)
   ·
    exact hid (by first | rfl | trivial | (intro u hu; simp at hu; rcases hu with rfl | rfl | rfl | rfl <;> rfl) | (intro u hu; simp at hu; subst hu; rfl) | (simp [Value.oneCell']; done))
   ·
    exact hid (le_maxLen (by omega))
   ·
    exact hid (by omega)
   ·
    exact hid (by have h9 := hk2.size; first | omega | (simp; omega))
   go_roundw
   case rel => exact ⟨k + 1, i + 8, by omega, by go_num, hid (by have := HI.out; omega), HO4.out, HB4.out⟩
   case measure => simp [intOf]; omega
  ·
   obtain rfl : k = q := by omega
   have HOW := hid hown
   have hge : ¬ ((i : Int) < (s.size : Int)) := by have := HI.out; have := HQ.out; omega
   clear hown hbe
   go_wp2_with fail
   go_ret2
   obtain ⟨A', c', e, -, hrd⟩ := own_rd HOW.out
   cases e
   refine ⟨A, c, ?_, ?_, hrd, HBE.out, NewA.own HOW.out⟩
   ·
    show _ = Ending.returned (.tuple #[.slice A (firstk _ _ _ k).length c, .bool true])
    rw [firstk_len]
    rfl
   ·
    show (firstk _ _ _ k).length ≤ c
    rw [firstk_len]
    exact hkc
theorem rtaki_list (s : ByteArray) (w : World) (hs : s.size ≤ 140737488355328) : Calls Tryz.prog 102 #[.string s] w (LB Ic w (takL 8 decI (sb s))) := by
 by_cases h : s.size % 8 = 0 ∧ 1 ≤ s.size / 8 ∧ s.size / 8 ≤ 4
 ·
  rw [takL_yes _ _ _ (by rw [sb_len]; exact h.1) (by rw [sb_len]; exact h.2.1) (by rw [sb_len]; exact h.2.2), sb_len]
  exact rtaki_some s w (s.size / 8) (by omega) h.2.1 h.2.2
 ·
  rw [takL_no _ _ _ (by rw [sb_len]; omega)]
  exact rtaki_none s w hs (by omega)
theorem rtakt_none (s : ByteArray) (w : World) (hs : s.size ≤ 140737488355328) (h : s.size % 32 ≠ 0 ∨ ¬ (1 ≤ s.size / 32 ∧ s.size / 32 ≤ 4)) : Calls Tryz.prog 100 #[.string s] w (LB Tr.cells w ([], false)) := by
 by_cases h1 : s.size % 32 = 0
 ·
  have h2 : ((s.size : Int) % 32) = 0 := by omega
  have HM := hid (many_any ((s.size : Int) / 32))
  rw [decide_eq_false (show ¬ (1 ≤ ((s.size : Int) / 32) ∧ ((s.size : Int) / 32) ≤ 4) by omega)] at HM
  clear h h1
  go_enter Tryz.func100, Tryz.ntmps100
  go_wp2_with (go_at_call 114; refine (HM.out _).mono ?_; rintro e w' ⟨rfl, rfl⟩)
  go_ret2
  exact LB_none _ (Below.refl _ _)
 ·
  have h2 : ¬ (((s.size : Int) % 32) = 0) := by omega
  clear h h1
  go_enter Tryz.func100, Tryz.ntmps100
  go_wp2_with fail
  go_ret2
  exact LB_none _ (Below.refl _ _)
theorem rtakt_some (s : ByteArray) (w : World) (q : Nat) (hq : s.size = q * 32) (h1 : 1 ≤ q) (h4 : q ≤ 4) : Calls Tryz.prog 100 #[.string s] w (LB Tr.cells w (firstk 32 decT (sb s) q, true)) := by
 obtain ⟨i0, hi, hz0, hz1, hz2⟩ := info_parts trInfo
 have h2 : ((s.size : Int) % 32) = 0 := by omega
 have HM := hid (many_any ((s.size : Int) / 32))
 rw [decide_eq_true (show (1 ≤ ((s.size : Int) / 32) ∧ ((s.size : Int) / 32) ≤ 4) by omega)] at HM
 have HQ := hid hq
 have hsm : s.size ≤ 128 := by omega
 have HSL := hid (sb_len s)
 clear hq
 go_enter Tryz.func100, Tryz.ntmps100
 go_wp2_with (go_at_call 114; refine (HM.out _).mono ?_; rintro e w' ⟨rfl, rfl⟩)
 go_loopw [4, 5] (fun lv iv wr => ∃ (k i : Nat), k ≤ q ∧ iv = .int .i64 (i : Int) ∧ Hid (i = k * 32) ∧ wr.ownsRow w.heap.size 82 4 lv k (rows Tr.cells (firstk 32 decT (sb s) k)) ∧ Below w.heap.size w wr) (fun _ iv _ => s.size - (intOf iv).toNat)
 case atStart => exact ⟨0, 0, by omega, rfl, hid (by omega), own_empty (Row.new _ _ #[]) (Nat.le_refl _), (Below.refl _ _).alloc (Nat.le_refl _) _⟩
 case round =>
  obtain ⟨k, i, hk, rfl, HI, hown, hbe⟩ := hrel
  have HBE := hid hbe
  have hsz := hbe.size
  obtain ⟨A, c, rfl, hkc, -⟩ := own_rd hown
  by_cases hlt : k < q
  ·
   have hlt2 : i + 32 ≤ s.size := by
    have h3 : (k + 1) * 32 ≤ q * 32 := Nat.mul_le_mul_right _ hlt
    have := HQ.out
    have := HI.out
    omega
   have hlt3 : (i : Int) < (s.size : Int) := by omega
   have HOW := hid hown
   have hcs : Tr.cells (decT (piece 32 (sb s) k)) = [.int .u64 (at8 (sb s) i : Int), .int .u64 (at8 (sb s) (i + 8) : Int), .int .u64 (at8 (sb s) (i + 16) : Int), .int .u64 (at8 (sb s) (i + 24) : Int)] := by
    unfold decT Tr.cells
    rw [at8_piece 32 (sb s) k 0 (by omega), at8_piece 32 (sb s) k 8 (by omega), at8_piece 32 (sb s) k 16 (by omega), at8_piece 32 (sb s) k 24 (by omega), Nat.add_zero, ← HI.out]
   have HA0 := hid (fun W => at_any s i W (by omega) (by omega))
   have HA1 := hid (fun W => at_any s (i + 8) W (by omega) (by omega))
   have HA2 := hid (fun W => at_any s (i + 16) W (by omega) (by omega))
   have HA3 := hid (fun W => at_any s (i + 24) W (by omega) (by omega))
   rw [Int.natCast_add] at HA1 HA2 HA3
   generalize at8 (sb s) i = x0 at *
   generalize at8 (sb s) (i + 8) = x1 at *
   generalize at8 (sb s) (i + 16) = x2 at *
   generalize at8 (sb s) (i + 24) = x3 at *
   have HA1' : Hid (∀ W : World, Calls Tryz.prog 135 #[.string s, .int .i64 ((i : Int) + 8)] W (VE W (.int .u64 (x1 : Int)))) := hid HA1.out
   have HA2' : Hid (∀ W : World, Calls Tryz.prog 135 #[.string s, .int .i64 ((i : Int) + 16)] W (VE W (.int .u64 (x2 : Int)))) := hid HA2.out
   have HA3' : Hid (∀ W : World, Calls Tryz.prog 135 #[.string s, .int .i64 ((i : Int) + 24)] W (VE W (.int .u64 (x3 : Int)))) := hid HA3.out
   clear HA1 HA2 HA3
   have hrow := rows_firstk Tr.cells 32 decT (sb s) k
   rw [hcs] at hrow
   have HRW := hid hrow
   clear hrow hcs hown hbe
   go_wp2_with (first
    | (go_at_call 135; refine (HA0.out _).mono ?_; rintro e w2 ⟨rfl, hb2⟩; have hk2 : Below wr.heap.size wr w2 := hb2; clear HA0)
    | (go_at_call 135; refine (HA1'.out _).mono ?_; rintro e w3 ⟨rfl, hb2⟩; replace hk2 : Below wr.heap.size wr w3 := Kp.call hb2 hk2; clear HA1')
    | (go_at_call 135; refine (HA2'.out _).mono ?_; rintro e w4 ⟨rfl, hb2⟩; replace hk2 : Below wr.heap.size wr w4 := Kp.call hb2 hk2; clear HA2')
    | (go_at_call 135; refine (HA3'.out _).mono ?_; rintro e w5 ⟨rfl, hb2⟩; replace hk2 : Below wr.heap.size wr w5 := Kp.call hb2 hk2; clear HA3')
    | (refine wpl_append rfl (.tmp 24) (.tmp 41) 55 rfl w.heap.size 82 i0 _ 4 32 Tryz.underlying55 hi hz0 hz1 hz2 rfl (by omega) (.slice A k c) k _ rfl ((own_below HOW.out hk2).alloc _) (w5.heap.size + 1) (some ⟨w5.heap.size, 0, none⟩) 1 1 [.int .u64 (x0 : Int), .int .u64 (x1 : Int), .int .u64 (x2 : Int), .int .u64 (x3 : Int)] rfl ?_ ?_ ?_ ?_ ?_ ?_ ?_; intro v6 w6 hown4 hb4 hg4; rw [← HRW.out] at hown4; have HO4 := hid hown4; have HB4 := hid (((HBE.out.trans (Below.mono hk2 hsz)).alloc (Nat.le_trans hsz hk2.size) _).trans hb4); clear hown4 hb4 hg4))
   rotate_left
   ·
    exact hid (Row.rd (cs := [.int .u64 (x0 : Int), .int .u64 (x1 : Int), .int .u64 (x2 : Int), .int .u64 (x3 : Int)]) (Row.new _ _ _) (Nat.lt_succ_self _))
   ·
    exact hid (by first | trivial | rfl)
   ·
    exact hid (by first | rfl | trivial | (intro u hu; simp at hu; rcases hu with rfl | rfl | rfl | rfl <;> rfl) | (intro u hu; simp at hu; subst hu; rfl) | (simp [Value.oneCell']; done))
   ·
    exact hid (le_maxLen (by omega))
   ·
    exact hid (by omega)
   ·
    exact hid (by have h9 := hk2.size; first | omega | (simp; omega))
   go_roundw
   case rel => exact ⟨k + 1, i + 32, by omega, by go_num, hid (by have := HI.out; omega), HO4.out, HB4.out⟩
   case measure => simp [intOf]; omega
  ·
   obtain rfl : k = q := by omega
   have HOW := hid hown
   have hge : ¬ ((i : Int) < (s.size : Int)) := by have := HI.out; have := HQ.out; omega
   clear hown hbe
   go_wp2_with fail
   go_ret2
   obtain ⟨A', c', e, -, hrd⟩ := own_rd HOW.out
   cases e
   refine ⟨A, c, ?_, ?_, hrd, HBE.out, NewA.own HOW.out⟩
   ·
    show _ = Ending.returned (.tuple #[.slice A (firstk _ _ _ k).length c, .bool true])
    rw [firstk_len]
    rfl
   ·
    show (firstk _ _ _ k).length ≤ c
    rw [firstk_len]
    exact hkc
theorem rtakt_list (s : ByteArray) (w : World) (hs : s.size ≤ 140737488355328) : Calls Tryz.prog 100 #[.string s] w (LB Tr.cells w (takL 32 decT (sb s))) := by
 by_cases h : s.size % 32 = 0 ∧ 1 ≤ s.size / 32 ∧ s.size / 32 ≤ 4
 ·
  rw [takL_yes _ _ _ (by rw [sb_len]; exact h.1) (by rw [sb_len]; exact h.2.1) (by rw [sb_len]; exact h.2.2), sb_len]
  exact rtakt_some s w (s.size / 32) (by omega) h.2.1 h.2.2
 ·
  rw [takL_no _ _ _ (by rw [sb_len]; omega)]
  exact rtakt_none s w hs (by omega)
theorem rtaka_none (s : ByteArray) (w : World) (hs : s.size ≤ 140737488355328) (h : s.size % 9 ≠ 0 ∨ ¬ (1 ≤ s.size / 9 ∧ s.size / 9 ≤ 4)) : Calls Tryz.prog 98 #[.string s] w (LB Ac.cells w ([], false)) := by
 by_cases h1 : s.size % 9 = 0
 ·
  have h2 : ((s.size : Int) % 9) = 0 := by omega
  have HM := hid (many_any ((s.size : Int) / 9))
  rw [decide_eq_false (show ¬ (1 ≤ ((s.size : Int) / 9) ∧ ((s.size : Int) / 9) ≤ 4) by omega)] at HM
  clear h h1
  go_enter Tryz.func98, Tryz.ntmps98
  go_wp2_with (go_at_call 114; refine (HM.out _).mono ?_; rintro e w' ⟨rfl, rfl⟩)
  go_ret2
  exact LB_none _ (Below.refl _ _)
 ·
  have h2 : ¬ (((s.size : Int) % 9) = 0) := by omega
  clear h h1
  go_enter Tryz.func98, Tryz.ntmps98
  go_wp2_with fail
  go_ret2
  exact LB_none _ (Below.refl _ _)
theorem rtaka_some (s : ByteArray) (w : World) (q : Nat) (hq : s.size = q * 9) (h1 : 1 ≤ q) (h4 : q ≤ 4) : Calls Tryz.prog 98 #[.string s] w (LB Ac.cells w (firstk 9 decA (sb s) q, true)) := by
 obtain ⟨i0, hi, hz0, hz1, hz2⟩ := info_parts acInfo
 have h2 : ((s.size : Int) % 9) = 0 := by omega
 have HM := hid (many_any ((s.size : Int) / 9))
 rw [decide_eq_true (show (1 ≤ ((s.size : Int) / 9) ∧ ((s.size : Int) / 9) ≤ 4) by omega)] at HM
 have HQ := hid hq
 have hsm : s.size ≤ 128 := by omega
 have HSL := hid (sb_len s)
 clear hq
 go_enter Tryz.func98, Tryz.ntmps98
 go_wp2_with (go_at_call 114; refine (HM.out _).mono ?_; rintro e w' ⟨rfl, rfl⟩)
 go_loopw [4, 5] (fun lv iv wr => ∃ (k i : Nat), k ≤ q ∧ iv = .int .i64 (i : Int) ∧ Hid (i = k * 9) ∧ wr.ownsRow w.heap.size 80 4 lv k (rows Ac.cells (firstk 9 decA (sb s) k)) ∧ Below w.heap.size w wr) (fun _ iv _ => s.size - (intOf iv).toNat)
 case atStart => exact ⟨0, 0, by omega, rfl, hid (by omega), own_empty (Row.new _ _ #[]) (Nat.le_refl _), (Below.refl _ _).alloc (Nat.le_refl _) _⟩
 case round =>
  obtain ⟨k, i, hk, rfl, HI, hown, hbe⟩ := hrel
  have HBE := hid hbe
  have hsz := hbe.size
  obtain ⟨A, c, rfl, hkc, -⟩ := own_rd hown
  by_cases hlt : k < q
  ·
   have hlt2 : i + 9 ≤ s.size := by
    have h3 : (k + 1) * 9 ≤ q * 9 := Nat.mul_le_mul_right _ hlt
    have := HQ.out
    have := HI.out
    omega
   have hlt3 : (i : Int) < (s.size : Int) := by omega
   have HOW := hid hown
   have h8 : i + 8 < s.size := by omega
   have hcs : Ac.cells (decA (piece 9 (sb s) k)) = [.int .u64 (at8 (sb s) i : Int), .int .i64 ((s[i + 8]'h8).toNat : Int), .int .u64 0, .int .u64 0] := by
    have e1 := at8_piece 9 (sb s) k 0 (by omega)
    have e2 : (piece 9 (sb s) k).getD 8 0 = s[i + 8]'h8 := by
     unfold piece
     rw [List.getD, List.getElem?_take_of_lt (by omega), List.getElem?_drop, ← HI.out, List.getElem?_eq_getElem (by rw [sb_len]; omega)]
     rfl
    unfold decA Ac.cells
    rw [e1, Nat.add_zero, ← HI.out, e2]
    rfl
   have hb8 := UInt8.toNat_lt (s[i + 8]'h8)
   have HA0 := hid (fun W => at_any s i W (by omega) (by omega))
   generalize at8 (sb s) i = x0 at *
   have hrow := rows_firstk Ac.cells 9 decA (sb s) k
   rw [hcs] at hrow
   have HRW := hid hrow
   clear hrow hcs hown hbe
   have hw8 : IntKind.i64.wrap ((s[i + 8]'h8).toNat : Int) = ((s[i + 8]'h8).toNat : Int) := IntWalk.i64_in _ (by omega)
   have hw9 : IntKind.i64.wrap ((i : Int) + 8) = (i : Int) + 8 := IntWalk.i64_in _ (by omega)
   have hix : 0 ≤ (i : Int) + 8 ∧ (i : Int) + 8 < (s.size : Int) := by omega
   have hin : ((i : Int) + 8).toNat = i + 8 := by omega
   go_wp2_with fail
   refine wp_region_held_drew (S := fun _ => True) (by kernel_rfl) trivial (fun hH => ?_)
   refine tk_ (i := 0) (v := .slice A k c) rfl (Or.inl ⟨by rfl, fun w' hw' => by clear hw' ; go_simp⟩) hH ?_
   simp only [Act.put]
   refine tk_ (i := 1) (v := .string s) rfl (Or.inl ⟨by rfl, fun w' hw' => by clear hw' ; go_simp⟩) hH ?_
   simp only [Act.put]
   refine tk_ (i := 2) (v := .int .i64 (i : Int)) rfl (Or.inl ⟨by rfl, fun w' hw' => by clear hw' ; go_simp⟩) hH ?_
   simp only [Act.put]
   refine tk_ (i := 4) (v := .string s) rfl (Or.inl ⟨by rfl, fun w' hw' => by clear hw' ; go_simp⟩) hH ?_
   simp only [Act.put]
   refine tk_ (i := 5) (v := .int .i64 (i : Int)) rfl (Or.inl ⟨by rfl, fun w' hw' => by clear hw' ; go_simp⟩) hH ?_
   simp only [Act.put]
   refine tk_ (i := 6) (v := .int .i64 ((i : Int) + 8)) rfl (Or.inl ⟨by rfl, fun w' hw' => by clear hw' ; go_simp⟩) hH ?_
   simp only [Act.put]
   refine tk_ (i := 7) (v := .int .u8 ((s[i + 8]'h8).toNat : Int)) rfl (Or.inl ⟨by rfl, fun w' hw' => by clear hw' ; go_simp⟩) hH ?_
   simp only [Act.put]
   refine tk_ (i := 8) (v := .int .i64 ((s[i + 8]'h8).toNat : Int)) rfl (Or.inl ⟨by rfl, fun w' hw' => by clear hw' ; go_simp⟩) hH ?_
   simp only [Act.put]
   generalize ((s[i + 8]'h8).toNat) = b at *
   have HRW2 : Hid (rows Ac.cells (firstk 9 decA (sb s) (k + 1)) = rows Ac.cells (firstk 9 decA (sb s) k) ++ [.int .u64 (x0 : Int), .int .i64 (b : Int), .int .u64 0, .int .u64 0]) := hid HRW.out
   refine rd1 (i := 3) (by kernel_rfl) rfl (fun K hK => ?_)
   go_simp
   go_at_call 135
   refine (HA0.out _).mono ?_
   rintro e w2 ⟨rfl, hb2⟩
   have hk2 : Below wr.heap.size wr w2 := Kp.call hb2 (Kp.refl wr).drew
   go_wp2_with fail
   refine hK.out _ _ (trivial) (fun hH => ?_)
   clear hK K
   try simp only [Act.put]
   refine rd1 (i := 9) (by kernel_rfl) rfl (fun K hK => ?_)
   go_simp
   refine hK.out _ _ (trivial) (fun hH => ?_)
   clear hK K
   try simp only [Act.put]
   refine rd1 (i := 10) (by kernel_rfl) rfl (fun K hK => ?_)
   go_simp
   refine hK.out _ _ (trivial) (fun hH => ?_)
   clear hK K
   try simp only [Act.put]
   refine rd1 (i := 11) (by kernel_rfl) rfl (fun K hK => ?_)
   rw [if_pos (by rfl)]
   refine wpo_append (.tmp 24) (.tmp 34) 53 rfl w.heap.size 80 i0 _ 4 32 Tryz.underlying53 hi hz0 hz1 hz2 rfl (by omega) (.slice A k c) k _ rfl ((own_below HOW.out hk2).alloc _) (w2.heap.size + 1) (some ⟨w2.heap.size, 0, none⟩) 1 1 [.int .u64 (x0 : Int), .int .i64 (b : Int), .int .u64 0, .int .u64 0] rfl (fun v6 w6 hown4 hb4 hg4 => ?_) ?_ ?_ ?_ ?_ ?_ ?_
   rotate_left
   ·
    exact hid (Row.rd (cs := [.int .u64 (x0 : Int), .int .i64 (b : Int), .int .u64 0, .int .u64 0]) (Row.new _ _ _) (Nat.lt_succ_self _))
   ·
    exact hid (by first | trivial | rfl)
   ·
    exact hid (by first | rfl | trivial | (intro u hu; simp at hu; rcases hu with rfl | rfl | rfl | rfl <;> rfl) | (intro u hu; simp at hu; subst hu; rfl) | (simp [Value.oneCell']; done))
   ·
    exact hid (le_maxLen (by omega))
   ·
    exact hid (by omega)
   ·
    exact hid (by have h9 := hk2.size; first | omega | (simp; omega))
   rw [← HRW2.out] at hown4
   have HO4 := hid hown4
   have HB4 := hid (((HBE.out.trans (Below.mono hk2 hsz)).alloc (Nat.le_trans hsz (Below.size hk2)) _).trans hb4)
   refine hK.out _ _ trivial (fun hH => ?_)
   clear hK K
   try simp only [Act.put]
   refine rd1 (i := 12) (by kernel_rfl) rfl (fun K hK => ?_)
   go_simp
   refine hK.out _ _ (trivial) (fun hH => ?_)
   clear hK K
   try simp only [Act.put]
   refine wpAnyH_done (by kernel_rfl) ?_ _
   try simp only [Act.put]
   go_wp2_with fail
   go_roundw
   case rel => exact ⟨k + 1, i + 9, by omega, by go_num, hid (by have := HI.out; omega), HO4.out, HB4.out⟩
   case measure => simp [intOf]; omega
  ·
   obtain rfl : k = q := by omega
   have HOW := hid hown
   have hge : ¬ ((i : Int) < (s.size : Int)) := by have := HI.out; have := HQ.out; omega
   clear hown hbe
   go_wp2_with fail
   go_ret2
   obtain ⟨A', c', e, -, hrd⟩ := own_rd HOW.out
   cases e
   refine ⟨A, c, ?_, ?_, hrd, HBE.out, NewA.own HOW.out⟩
   ·
    show _ = Ending.returned (.tuple #[.slice A (firstk _ _ _ k).length c, .bool true])
    rw [firstk_len]
    rfl
   ·
    show (firstk _ _ _ k).length ≤ c
    rw [firstk_len]
    exact hkc
theorem rtaka_list (s : ByteArray) (w : World) (hs : s.size ≤ 140737488355328) : Calls Tryz.prog 98 #[.string s] w (LB Ac.cells w (takL 9 decA (sb s))) := by
 by_cases h : s.size % 9 = 0 ∧ 1 ≤ s.size / 9 ∧ s.size / 9 ≤ 4
 ·
  rw [takL_yes _ _ _ (by rw [sb_len]; exact h.1) (by rw [sb_len]; exact h.2.1) (by rw [sb_len]; exact h.2.2), sb_len]
  exact rtaka_some s w (s.size / 9) (by omega) h.2.1 h.2.2
 ·
  rw [takL_no _ _ _ (by rw [sb_len]; omega)]
  exact rtaka_none s w hs (by omega)
theorem rputt_none (A : Option Addr) (n c : Nat) (w : World) (h : n = 0 ∨ 4 < n) : Calls Tryz.prog 78 #[.slice A n c] w (SN w ([], 1)) := by
 have HM := hid (many_any (n : Int))
 rw [decide_eq_false (show ¬ (1 ≤ (n : Int) ∧ (n : Int) ≤ 4) by omega)] at HM
 clear h
 go_enter Tryz.func78, Tryz.ntmps78
 go_wp2_with (go_at_call 114; refine (HM.out _).mono ?_; rintro e w' ⟨rfl, rfl⟩)
 go_ret2
 exact ⟨rfl, Below.refl _ _⟩
theorem rputt_some (A : Option Addr) (l : List Tr) (n c B : Nat) (w : World) (hr : Rd w B A (rows Tr.cells l)) (hn : n = l.length) (h0 : 0 < n) (h4 : n ≤ 4) (hnc : n ≤ c) (hB : B ≤ w.heap.size) (hok : ∀ x ∈ l, x.ok) :
  Calls Tryz.prog 78 #[.slice A n c] w (SN w (if l.all (fun x => (trB x).isSome) then (l.flatMap (fun x => (trB x).getD []), 0) else ([], 1))) := by
 have hlen := rows_len (C := Tr.cells) Tr.len l
 obtain ⟨ga, o, rfl, hga, hcell⟩ := id hr (by intro e; rw [e] at hlen; simp at hlen; omega)
 clear hcell
 have HM := hid (many_any (n : Int))
 rw [decide_eq_true (show (1 ≤ (n : Int) ∧ (n : Int) ≤ 4) by omega)] at HM
 have HR := hid hr
 have HN := hid hn
 have HOK := hid (fun k (hk : k < l.length) => hok l[k] (List.getElem_mem hk))
 obtain ⟨r, hr0⟩ : ∃ r : List UInt8 × Int, (if l.all (fun x => (trB x).isSome) then (l.flatMap (fun x => (trB x).getD []), 0) else ([], 1)) = r := ⟨_, rfl⟩
 rw [hr0]
 have HYES : Hid ((l.all fun x => (trB x).isSome) = true → r = (l.flatMap (fun x => (trB x).getD []), 0)) := hid fun h => by rw [← hr0, if_pos h]
 have HNO : Hid ((l.all fun x => (trB x).isSome) = false → r = ([], 1)) := hid fun h => by rw [← hr0, if_neg (by rw [h]; decide)]
 clear hr0 hr hn hok hlen
 go_enter Tryz.func78, Tryz.ntmps78
 go_wp2_with (go_at_call 114; refine (HM.out _).mono ?_; rintro e w' ⟨rfl, rfl⟩)
 go_loopw [4, 5] (fun sv iv wr => ∃ k : Nat, k ≤ n ∧ iv = .int .i64 (k : Int) ∧ sv = .string ⟨(pre trB l k).toArray⟩ ∧ Hid (∀ j (hj : j < l.length), j < k → (trB l[j]).isSome = true) ∧ Below w.heap.size w wr) (fun _ iv _ => n - (intOf iv).toNat)
 case atStart => exact ⟨0, by omega, rfl, rfl, hid (by intro j _ hj; omega), Below.refl _ _⟩
 case round =>
  obtain ⟨k, hk, rfl, rfl, HP, hbe⟩ := hrel
  have HBE := hid hbe
  have hsz := hbe.size
  have hple := pre_len trB l 32 (fun x => Nat.le_of_eq (trB_len x)) k
  have hple2 : (pre trB l k).length ≤ 128 := by
   have : k * 32 ≤ 4 * 32 := Nat.mul_le_mul_right _ (by omega)
   omega
  clear hple
  by_cases hlt : k < n
  ·
   have hkl : k < l.length := by rw [← HN.out]; exact hlt
   have hrd := HR.out.below hbe hB
   have hrg := hrd.range Tr.len k hkl
   have HPS := hid (pre_succ trB l k hkl)
   have hokk := HOK.out k hkl
   obtain ⟨hx0, hx1, hx2, hx3⟩ := hokk
   have hcs : ∀ j v, (l[k]).cells[j]? = some v → ∀ W, Kp wr W → W.cell? ⟨ga, o + k * 4 + j, none⟩ = some v := fun j v hv W hW => by
    rw [Below.cell (p := ⟨ga, o + k * 4 + j, none⟩) hW (by show ga < _; omega)]
    exact hrg j v hv
   have hc0 := hcs 0 _ rfl
   simp only [Nat.add_zero] at hc0
   have HC0 := hid hc0
   clear hc0
   have HC1 := hid (hcs 1 _ rfl)
   have HC2 := hid (hcs 2 _ rfl)
   have HC3 := hid (hcs 3 _ rfl)
   have HE0 := hid (fun W => eight_any l[k].a W hx0)
   have HE1 := hid (fun W => eight_any l[k].b W hx1)
   have HE2 := hid (fun W => eight_any l[k].c W hx2)
   have HE3 := hid (fun W => eight_any l[k].d W hx3)
   have hps2 : pre trB l (k + 1) = pre trB l k ++ le l[k].a 8 ++ le l[k].b 8 ++ le l[k].c 8 ++ le l[k].d 8 := by
    rw [HPS.out]
    show pre trB l k ++ (le l[k].a 8 ++ le l[k].b 8 ++ le l[k].c 8 ++ le l[k].d 8) = _
    simp only [List.append_assoc]
   generalize pre trB l k = Q at *
   have HCAT := hid hps2
   have h81 := le_len 8 l[k].a
   have h82 := le_len 8 l[k].b
   have h83 := le_len 8 l[k].c
   have h84 := le_len 8 l[k].d
   clear hps2 HPS hrd hrg hbe hcs hx0 hx1 hx2 hx3
   generalize le l[k].a 8 = E0 at *
   generalize le l[k].b 8 = E1 at *
   generalize le l[k].c 8 = E2 at *
   generalize le l[k].d 8 = E3 at *
   generalize l[k].a = x0 at *
   generalize l[k].b = x1 at *
   generalize l[k].c = x2 at *
   generalize l[k].d = x3 at *
   have hq1 : ¬ (9223372036854775807 < Q.length + E0.length) := by omega
   have hq2 : ¬ (9223372036854775807 < Q.length + E0.length + E1.length) := by omega
   have hq3 : ¬ (9223372036854775807 < Q.length + E0.length + E1.length + E2.length) := by omega
   have hq4 : ¬ (9223372036854775807 < Q.length + E0.length + E1.length + E2.length + E3.length) := by omega
   have hq2' : ¬ (9223372036854775807 < Q.length + (E0.length + E1.length)) := by omega
   have hq3' : ¬ (9223372036854775807 < Q.length + (E0.length + (E1.length + E2.length))) := by omega
   have hq4' : ¬ (9223372036854775807 < Q.length + (E0.length + (E1.length + (E2.length + E3.length)))) := by omega
   have hkn : (k : Int) < (n : Int) := by omega
   clear h81 h82 h83 h84
   have hk0 : (0 : Int) ≤ (k : Int) := by omega
   go_wp2_with fail
   refine wp_region_held_drew (S := fun w' => Kp wr w') (by kernel_rfl) (Kp.refl _).drew (fun hH => ?_)
   refine tk_ (i := 0) (v := .string ⟨Q.toArray⟩) rfl (Or.inl ⟨by rfl, fun w' hw' => by clear hw' ; go_simp⟩) hH ?_
   simp only [Act.put]
   refine tk_ (i := 1) (v := .slice (some ⟨ga, o, none⟩) n c) rfl (Or.inl ⟨by rfl, fun w' hw' => by clear hw' ; go_simp⟩) hH ?_
   simp only [Act.put]
   refine tk_ (i := 2) (v := .int .i64 (k : Int)) rfl (Or.inl ⟨by rfl, fun w' hw' => by clear hw' ; go_simp⟩) hH ?_
   simp only [Act.put]
   refine tk_ (i := 3) (v := .pointer (some ⟨ga, o + k * 4, none⟩)) rfl (Or.inl ⟨by rfl, fun w' hw' => by clear hw' ; go_simp⟩) hH ?_
   simp only [Act.put]
   refine tk_ (i := 4) (v := .pointer (some ⟨ga, o + k * 4, none⟩)) rfl (Or.inl ⟨by rfl, fun w' hw' => by clear hw' ; go_simp⟩) hH ?_
   simp only [Act.put]
   refine tk_ (i := 5) (v := .int .u64 (x0 : Int)) rfl (Or.inl ⟨by rfl, fun w' hw' => by have h := HC0.out w' hw'; go_simp⟩) hH ?_
   simp only [Act.put]
   refine tk_ (i := 8) (v := .slice (some ⟨ga, o, none⟩) n c) rfl (Or.inl ⟨by rfl, fun w' hw' => by clear hw' ; go_simp⟩) hH ?_
   simp only [Act.put]
   refine tk_ (i := 9) (v := .int .i64 (k : Int)) rfl (Or.inl ⟨by rfl, fun w' hw' => by clear hw' ; go_simp⟩) hH ?_
   simp only [Act.put]
   refine tk_ (i := 10) (v := .pointer (some ⟨ga, o + k * 4, none⟩)) rfl (Or.inl ⟨by rfl, fun w' hw' => by clear hw' ; go_simp⟩) hH ?_
   simp only [Act.put]
   refine tk_ (i := 11) (v := .pointer (some ⟨ga, o + k * 4 + 1, none⟩)) rfl (Or.inl ⟨by rfl, fun w' hw' => by clear hw' ; go_simp⟩) hH ?_
   simp only [Act.put]
   refine tk_ (i := 12) (v := .int .u64 (x1 : Int)) rfl (Or.inl ⟨by rfl, fun w' hw' => by have h := HC1.out w' hw'; go_simp⟩) hH ?_
   simp only [Act.put]
   refine tk_ (i := 15) (v := .slice (some ⟨ga, o, none⟩) n c) rfl (Or.inl ⟨by rfl, fun w' hw' => by clear hw' ; go_simp⟩) hH ?_
   simp only [Act.put]
   refine tk_ (i := 16) (v := .int .i64 (k : Int)) rfl (Or.inl ⟨by rfl, fun w' hw' => by clear hw' ; go_simp⟩) hH ?_
   simp only [Act.put]
   refine tk_ (i := 17) (v := .pointer (some ⟨ga, o + k * 4, none⟩)) rfl (Or.inl ⟨by rfl, fun w' hw' => by clear hw' ; go_simp⟩) hH ?_
   simp only [Act.put]
   refine tk_ (i := 18) (v := .pointer (some ⟨ga, o + k * 4 + 2, none⟩)) rfl (Or.inl ⟨by rfl, fun w' hw' => by clear hw' ; go_simp⟩) hH ?_
   simp only [Act.put]
   refine tk_ (i := 19) (v := .int .u64 (x2 : Int)) rfl (Or.inl ⟨by rfl, fun w' hw' => by have h := HC2.out w' hw'; go_simp⟩) hH ?_
   simp only [Act.put]
   refine tk_ (i := 22) (v := .slice (some ⟨ga, o, none⟩) n c) rfl (Or.inl ⟨by rfl, fun w' hw' => by clear hw' ; go_simp⟩) hH ?_
   simp only [Act.put]
   refine tk_ (i := 23) (v := .int .i64 (k : Int)) rfl (Or.inl ⟨by rfl, fun w' hw' => by clear hw' ; go_simp⟩) hH ?_
   simp only [Act.put]
   refine tk_ (i := 24) (v := .pointer (some ⟨ga, o + k * 4, none⟩)) rfl (Or.inl ⟨by rfl, fun w' hw' => by clear hw' ; go_simp⟩) hH ?_
   simp only [Act.put]
   refine tk_ (i := 25) (v := .pointer (some ⟨ga, o + k * 4 + 3, none⟩)) rfl (Or.inl ⟨by rfl, fun w' hw' => by clear hw' ; go_simp⟩) hH ?_
   simp only [Act.put]
   refine tk_ (i := 26) (v := .int .u64 (x3 : Int)) rfl (Or.inl ⟨by rfl, fun w' hw' => by have h := HC3.out w' hw'; go_simp⟩) hH ?_
   simp only [Act.put]
   refine rd1 (i := 6) (by kernel_rfl) rfl (fun K hK => ?_)
   go_simp
   go_at_call 45
   refine (HE0.out _).mono ?_
   rintro e w2 ⟨rfl, hb2⟩
   go_wp2_with fail
   refine hK.out _ _ (Kp.call hb2 hH) (fun hH => ?_)
   clear hK K
   try simp only [Act.put]
   refine tk_ (i := 7) (v := .string (⟨Q.toArray⟩ ++ ⟨E0.toArray⟩)) rfl (Or.inl ⟨by rfl, fun w' hw' => by clear hw' ; go_simp⟩) hH ?_
   simp only [Act.put]
   refine rd1 (i := 13) (by kernel_rfl) rfl (fun K hK => ?_)
   go_simp
   go_at_call 45
   refine (HE1.out _).mono ?_
   rintro e w3 ⟨rfl, hb3⟩
   go_wp2_with fail
   refine hK.out _ _ (Kp.call hb3 hH) (fun hH => ?_)
   clear hK K
   try simp only [Act.put]
   refine tk_ (i := 14) (v := .string (⟨Q.toArray⟩ ++ ⟨E0.toArray⟩ ++ ⟨E1.toArray⟩)) rfl (Or.inl ⟨by rfl, fun w' hw' => by clear hw' ; go_simp⟩) hH ?_
   simp only [Act.put]
   refine rd1 (i := 20) (by kernel_rfl) rfl (fun K hK => ?_)
   go_simp
   go_at_call 45
   refine (HE2.out _).mono ?_
   rintro e w4 ⟨rfl, hb4⟩
   go_wp2_with fail
   refine hK.out _ _ (Kp.call hb4 hH) (fun hH => ?_)
   clear hK K
   try simp only [Act.put]
   refine tk_ (i := 21) (v := .string (⟨Q.toArray⟩ ++ ⟨E0.toArray⟩ ++ ⟨E1.toArray⟩ ++ ⟨E2.toArray⟩)) rfl (Or.inl ⟨by rfl, fun w' hw' => by clear hw' ; go_simp⟩) hH ?_
   simp only [Act.put]
   refine rd1 (i := 27) (by kernel_rfl) rfl (fun K hK => ?_)
   go_simp
   go_at_call 45
   refine (HE3.out _).mono ?_
   rintro e w5 ⟨rfl, hb5⟩
   go_wp2_with fail
   refine hK.out _ _ (Kp.call hb5 hH) (fun hH => ?_)
   clear hK K
   try simp only [Act.put]
   refine tk_ (i := 28) (v := .string (⟨Q.toArray⟩ ++ ⟨E0.toArray⟩ ++ ⟨E1.toArray⟩ ++ ⟨E2.toArray⟩ ++ ⟨E3.toArray⟩)) rfl (Or.inl ⟨by rfl, fun w' hw' => by clear hw' ; go_simp⟩) hH ?_
   simp only [Act.put]
   refine rd1 (i := 29) (by kernel_rfl) rfl (fun K hK => ?_)
   go_simp
   refine hK.out _ _ (hH) (fun hH => ?_)
   clear hK K
   try simp only [Act.put]
   refine wpAnyH_done (by kernel_rfl) ?_ _
   try simp only [Act.put]
   go_wp2_with fail
   go_roundw
   case rel => exact ⟨k + 1, by omega, by go_num, by rw [HCAT.out, ← cat_mk, ← cat_mk, ← cat_mk, ← cat_mk], hid (fun j hj _ => rfl), HBE.out.trans (Below.mono hH hsz)⟩
   case measure => simp [intOf]; omega
  ·
   obtain rfl : k = n := by omega
   have hfin : pre trB l k = l.flatMap (fun x => (trB x).getD []) := by
    unfold pre
    rw [List.take_of_length_le (by rw [HN.out]; exact Nat.le_refl _)]
   have HALL := hid (head_all (f := fun x => (trB x).isSome) (fun j hj => HP.out j hj (by rw [HN.out]; exact hj)))
   have HY := hid (HYES.out HALL.out)
   rw [← hfin] at HY
   generalize pre trB l k = Q at *
   clear hfin hbe
   go_wp2_with fail
   go_ret2
   rw [HY.out]
   exact ⟨rfl, HBE.out⟩
theorem rputt_list (A : Option Addr) (l : List Tr) (n c B : Nat) (w : World) (hr : Rd w B A (rows Tr.cells l)) (hn : n = l.length) (hnc : n ≤ c) (hB : B ≤ w.heap.size) (hok : ∀ x ∈ l, x.ok) :
  Calls Tryz.prog 78 #[.slice A n c] w (SN w (putL trB l)) := by
 unfold putL
 rw [← hn]
 by_cases h : n = 0 ∨ 4 < n
 ·
  rw [if_pos h]
  exact rputt_none A n c w h
 ·
  rw [if_neg h]
  exact rputt_some A l n c B w hr hn (by omega) (by omega) hnc hB hok
theorem pw_any (x : Ac) (hx : x.ok) (w : World) : Calls Tryz.prog 110 #[.agg x.cells.toArray] w (SN w (wholeB x)) := by
 have HA := hid (ask_any x hx)
 obtain ⟨id, fl, deb, cre⟩ := x
 have hl : leAll [deb, cre] = le deb 8 ++ le cre 8 := by simp [leAll]
 have HLY := hid (fun W B A (hr : Rd W B A (rows Ic [deb, cre])) hB => lay_nums A [deb, cre] 2 2 B W hr rfl (by omega) (by omega) (by omega) (by
  intro y hy
  simp at hy
  rcases hy with rfl | rfl
  ·
   exact hx.2.2.1
  ·
   exact hx.2.2.2) hB)
 have hres : wholeB ⟨id, fl, deb, cre⟩ = if (askS ⟨id, fl, deb, cre⟩).2 = 0 then ((askS ⟨id, fl, deb, cre⟩).1 ++ leAll [deb, cre], 0) else ([], 1) := by
  rw [hl]
  unfold wholeB askS
  by_cases h : 0 ≤ fl ∧ fl ≤ 255
  ·
   simp only [if_pos h]
   simp only [List.append_assoc, if_true]
  ·
   simp only [if_neg h]
   rfl
 have hask1 : (askS ⟨id, fl, deb, cre⟩).2 = 0 ∨ (askS ⟨id, fl, deb, cre⟩).2 = 1 := by
  unfold askS
  split
  ·
   exact .inl rfl
  ·
   exact .inr rfl
 have hask2 : (askS ⟨id, fl, deb, cre⟩).1.length ≤ 9 := by
  unfold askS
  split
  ·
   simp [le_len]
  ·
   simp
 rw [hres]
 have hln := leAll_len [deb, cre]
 generalize askS ⟨id, fl, deb, cre⟩ = r at *
 obtain ⟨bs, e⟩ := r
 generalize leAll [deb, cre] = E at *
 have HA2 : Hid (∀ W : World, Calls Tryz.prog 139 #[.agg #[.int .u64 (id : Int), .int .i64 fl, .int .u64 (deb : Int), .int .u64 (cre : Int)]] W (SN W (bs, e))) := hid HA.out
 have HZ := hid acSize
 have HNW : Hid (∀ W : World, Rd (W.alloc (.cells #[.int .u64 (deb : Int), .int .u64 (cre : Int)] 29)) (W.heap.size + 1) (some ⟨W.heap.size, 0, none⟩) (rows Ic [deb, cre])) := hid fun W => Row.rd (cs := rows Ic [deb, cre]) (Row.new W 29 #[.int .u64 (deb : Int), .int .u64 (cre : Int)]) (Nat.lt_succ_self _)
 have hq : ¬ (9223372036854775807 < bs.length + E.length) := by
  simp only at hask2
  rw [hln]
  simp
  omega
 clear HA hres hl hx hask2 hln
 rcases hask1 with h | h
 ·
  obtain rfl : e = 0 := h
  show Calls Tryz.prog 110 #[.agg #[.int .u64 (id : Int), .int .i64 fl, .int .u64 (deb : Int), .int .u64 (cre : Int)]] w (SN w (bs ++ E, 0))
  have HRW := hid (show Row (w.alloc (.cells #[.int .u64 (id : Int), .int .i64 fl, .int .u64 (deb : Int), .int .u64 (cre : Int)] 80)) w.heap.size 80 [.int .u64 (id : Int), .int .i64 fl, .int .u64 (deb : Int), .int .u64 (cre : Int)] from Row.new _ _ _)
  go_enter Tryz.func110, Tryz.ntmps110
  go_wp2_with (first
   | (go_at_call 139; refine (HA2.out _).mono ?_; rintro e1 w1 ⟨rfl, hb1⟩; have hr1 := HRW.out.below hb1 (by simp); have hc2 := hr1.cell 2; have hc3 := hr1.cell 3; simp only [List.getElem?_cons_succ, List.getElem?_cons_zero] at hc2 hc3)
   | (go_at_call 140; refine (HLY.out _ _ _ (HNW.out _) (by simp)).mono ?_; rintro e2 w2 ⟨rfl, hb2⟩))
  go_ret2
  exact ⟨by rw [← cat_mk]; rfl, (((Below.refl _ _).alloc (Nat.le_refl _) _).trans (hb1.mono (by simp))).trans (((Below.refl _ _).alloc (Nat.le_refl _) _ |>.mono (by have := hb1.size; simp at this; omega)).trans (hb2.mono (by have := hb1.size; simp at this ⊢; omega)))⟩
 ·
  obtain rfl : e = 1 := h
  show Calls Tryz.prog 110 #[.agg #[.int .u64 (id : Int), .int .i64 fl, .int .u64 (deb : Int), .int .u64 (cre : Int)]] w (SN w ([], 1))
  go_enter Tryz.func110, Tryz.ntmps110
  go_wp2_with (go_at_call 139; refine (HA2.out _).mono ?_; rintro e1 w1 ⟨rfl, hb1⟩)
  go_ret2
  exact ⟨rfl, ((Below.refl _ _).alloc (Nat.le_refl _) _).trans (hb1.mono (by simp))⟩
theorem rpw_any (x : Ac) (hx : x.ok) (w : World) : Calls Tryz.prog 77 #[.agg x.cells.toArray] w (SN w (wholeB x)) := by
 obtain ⟨id, fl, deb, cre⟩ := x
 obtain ⟨h1, -, h3, h4⟩ := hx
 simp only at h1 h3 h4
 have HF := hid (flags_any fl)
 have hflag : flagS fl = if 0 ≤ fl ∧ fl ≤ 255 then ([UInt8.ofNat fl.toNat], true) else ([], false) := rfl
 have hres : wholeB ⟨id, fl, deb, cre⟩ = if 0 ≤ fl ∧ fl ≤ 255 then (le id 8 ++ [UInt8.ofNat fl.toNat] ++ le deb 8 ++ le cre 8, 0) else ([], 1) := rfl
 rw [hres]
 rw [hflag] at HF
 have HE0 := hid (fun W => eight_any id W h1)
 have HE1 := hid (fun W => eight_any deb W h3)
 have HE2 := hid (fun W => eight_any cre W h4)
 have hl0 := le_len 8 id
 have hl1 := le_len 8 deb
 have hl2 := le_len 8 cre
 have HRW := hid (show Row (w.alloc (.cells #[.int .u64 (id : Int), .int .i64 fl, .int .u64 (deb : Int), .int .u64 (cre : Int)] 80)) w.heap.size 80 [.int .u64 (id : Int), .int .i64 fl, .int .u64 (deb : Int), .int .u64 (cre : Int)] from Row.new _ _ _)
 have HB0 := hid ((Below.refl w.heap.size w).alloc (Nat.le_refl _) (.cells #[.int .u64 (id : Int), .int .i64 fl, .int .u64 (deb : Int), .int .u64 (cre : Int)] 80))
 show Calls Tryz.prog 77 #[.agg #[.int .u64 (id : Int), .int .i64 fl, .int .u64 (deb : Int), .int .u64 (cre : Int)]] w _
 clear hres hflag
 by_cases h : 0 ≤ fl ∧ fl ≤ 255
 ·
  rw [if_pos h] at HF ⊢
  generalize le id 8 = E0 at *
  generalize le deb 8 = E1 at *
  generalize le cre 8 = E2 at *
  generalize UInt8.ofNat fl.toNat = b at *
  have hq0 : ¬ (9223372036854775807 < E0.length + 1) := by omega
  have hq1 : ¬ (9223372036854775807 < E0.length + 1 + E1.length) := by omega
  have hq2 : ¬ (9223372036854775807 < E0.length + 1 + E1.length + E2.length) := by omega
  have HFIN : Hid (⟨E0.toArray⟩ ++ ⟨#[b]⟩ ++ ⟨E1.toArray⟩ ++ ⟨E2.toArray⟩ = (⟨(E0 ++ [b] ++ E1 ++ E2).toArray⟩ : ByteArray)) := hid (by rw [← cat_mk, ← cat_mk, ← cat_mk])
  clear hl0 hl1 hl2 h h1 h3 h4
  go_enter Tryz.func77, Tryz.ntmps77
  go_wp2_with (go_at_call 113; refine (HF.out _).mono ?_; rintro e1 w1 ⟨rfl, hb1⟩)
  have hr1 := HRW.out.below hb1 (by simp)
  have HC : Hid (∀ j v, ([.int .u64 (id : Int), .int .i64 fl, .int .u64 (deb : Int), .int .u64 (cre : Int)] : List Value)[j]? = some v → ∀ W, Kp w1 W → W.cell? ⟨w.heap.size, j, none⟩ = some v) := hid fun j v hv W hW => by
   rw [(hr1.below hW hr1.lt).cell]
   exact hv
  have HC0 := hid (HC.out 0 _ rfl)
  have HC2 := hid (HC.out 2 _ rfl)
  have HC3 := hid (HC.out 3 _ rfl)
  have HB1 := hid (HB0.out.trans (hb1.mono (by simp)))
  clear hr1 hb1
  refine wp_region_held_drew (S := fun w' => Kp w1 w') (by kernel_rfl) (Kp.refl _).drew (fun hH => ?_)
  refine tk_ (i := 0) (v := .pointer (some ⟨w.heap.size, 0, none⟩)) rfl (Or.inl ⟨by rfl, fun w' hw' => by clear hw' ; go_simp⟩) hH ?_
  simp only [Act.put]
  refine tk_ (i := 1) (v := .int .u64 (id : Int)) rfl (Or.inl ⟨by rfl, fun w' hw' => by have h := HC0.out w' hw'; go_simp⟩) hH ?_
  simp only [Act.put]
  refine tk_ (i := 3) (v := .string ⟨#[b]⟩) rfl (Or.inl ⟨by rfl, fun w' hw' => by clear hw' ; go_simp⟩) hH ?_
  simp only [Act.put]
  refine tk_ (i := 5) (v := .pointer (some ⟨w.heap.size, 2, none⟩)) rfl (Or.inl ⟨by rfl, fun w' hw' => by clear hw' ; go_simp⟩) hH ?_
  simp only [Act.put]
  refine tk_ (i := 6) (v := .int .u64 (deb : Int)) rfl (Or.inl ⟨by rfl, fun w' hw' => by have h := HC2.out w' hw'; go_simp⟩) hH ?_
  simp only [Act.put]
  refine tk_ (i := 9) (v := .pointer (some ⟨w.heap.size, 3, none⟩)) rfl (Or.inl ⟨by rfl, fun w' hw' => by clear hw' ; go_simp⟩) hH ?_
  simp only [Act.put]
  refine tk_ (i := 10) (v := .int .u64 (cre : Int)) rfl (Or.inl ⟨by rfl, fun w' hw' => by have h := HC3.out w' hw'; go_simp⟩) hH ?_
  simp only [Act.put]
  refine rd1 (i := 2) (by kernel_rfl) rfl (fun K hK => ?_)
  go_simp
  go_at_call 45
  refine (HE0.out _).mono ?_
  rintro e w2 ⟨rfl, hb2⟩
  go_wp2_with fail
  refine hK.out _ _ (Kp.call hb2 hH) (fun hH => ?_)
  clear hK K
  try simp only [Act.put]
  refine tk_ (i := 4) (v := .string (⟨E0.toArray⟩ ++ ⟨#[b]⟩)) rfl (Or.inl ⟨by rfl, fun w' hw' => by clear hw' ; go_simp⟩) hH ?_
  simp only [Act.put]
  refine rd1 (i := 7) (by kernel_rfl) rfl (fun K hK => ?_)
  go_simp
  go_at_call 45
  refine (HE1.out _).mono ?_
  rintro e w3 ⟨rfl, hb3⟩
  go_wp2_with fail
  refine hK.out _ _ (Kp.call hb3 hH) (fun hH => ?_)
  clear hK K
  try simp only [Act.put]
  refine tk_ (i := 8) (v := .string (⟨E0.toArray⟩ ++ ⟨#[b]⟩ ++ ⟨E1.toArray⟩)) rfl (Or.inl ⟨by rfl, fun w' hw' => by clear hw' ; go_simp⟩) hH ?_
  simp only [Act.put]
  refine rd1 (i := 11) (by kernel_rfl) rfl (fun K hK => ?_)
  go_simp
  go_at_call 45
  refine (HE2.out _).mono ?_
  rintro e w4 ⟨rfl, hb4⟩
  go_wp2_with fail
  refine hK.out _ _ (Kp.call hb4 hH) (fun hH => ?_)
  clear hK K
  try simp only [Act.put]
  refine tk_ (i := 12) (v := .string (⟨E0.toArray⟩ ++ ⟨#[b]⟩ ++ ⟨E1.toArray⟩ ++ ⟨E2.toArray⟩)) rfl (Or.inl ⟨by rfl, fun w' hw' => by clear hw' ; go_simp⟩) hH ?_
  simp only [Act.put]
  refine rd1 (i := 13) (by kernel_rfl) rfl (fun K hK => ?_)
  go_simp
  refine hK.out _ _ (hH) (fun hH => ?_)
  clear hK K
  try simp only [Act.put]
  refine rd1 (i := 14) (by kernel_rfl) rfl (fun K hK => ?_)
  go_simp
  refine hK.out _ _ (hH) (fun hH => ?_)
  clear hK K
  try simp only [Act.put]
  refine wpAnyH_done (by kernel_rfl) ?_ _
  try simp only [Act.put]
  go_wp2_with fail
  go_ret2
  exact ⟨by rw [← HFIN.out]; rfl, HB1.out.trans (Below.mono hH HB1.out.size)⟩
 ·
  rw [if_neg h] at HF ⊢
  clear hl0 hl1 hl2 h h1 h3 h4 HE0 HE1 HE2
  go_enter Tryz.func77, Tryz.ntmps77
  go_wp2_with (go_at_call 113; refine (HF.out _).mono ?_; rintro e1 w1 ⟨rfl, hb1⟩)
  go_ret2
  exact ⟨rfl, HB0.out.trans (hb1.mono (by simp))⟩
end Go.Proofs.YtgednnjmcjhfmaaGreatDoor
