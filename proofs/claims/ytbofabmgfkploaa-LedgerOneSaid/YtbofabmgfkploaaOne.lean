/-
  The walk of LedgerOne.
-/
import Derived.Test.YtbofabmgfkploaaAgain
namespace Go.Proofs.Ytbofabmgfkploaa
open Go.RowKit
set_option maxRecDepth 10000

/-- what is laid is refused, or is taken again -/
theorem twoa (l : List Ac) (hok : ∀ x ∈ l, x.ok) : putL askB l = ([], 1) ∨ ∃ bs, putL askB l = (bs, 0) ∧ bs.length ≤ 1000 ∧ takL 9 decA bs = (l.map strip, true) ∧ ∀ x ∈ l, x.flat := by
  unfold putL
  by_cases h : l.length = 0 ∨ 4 < l.length
  · rw [if_pos h]
    exact .inl rfl
  · rw [if_neg h]
    cases h2 : l.all fun x => (askB x).isSome
    · exact .inl rfl
    · have hall := List.all_eq_true.1 h2
      have hfl : ∀ x ∈ l, 0 ≤ x.flags ∧ x.flags ≤ 255 := by
        intro x hx
        have h3 := hall x hx
        unfold askB at h3
        split at h3
        · assumption
        · cases h3
      refine .inr ⟨_, rfl, ?_, ?_, fun x hx => ⟨hok x hx, hfl x hx⟩⟩
      · have := pre_len askB l 9 (fun x => askB_len x) l.length
        unfold pre at this
        rw [List.take_of_length_le (Nat.le_refl _)] at this
        have h4 : l.length * 9 ≤ 4 * 9 := Nat.mul_le_mul_right _ (by omega)
        omega
      · rw [takL_flat 9 (by omega) decA _ l (by
          intro x hx
          unfold askB
          rw [if_pos (hfl x hx)]
          simp [le_len]) (by omega) (by omega)]
        congr 1
        apply List.map_congr_left
        intro x hx
        exact decA_le x (hok x hx) (hfl x hx)
theorem twot (l : List Tr) (hok : ∀ x ∈ l, x.ok) : putL trB l = ([], 1) ∨ ∃ bs, putL trB l = (bs, 0) ∧ bs.length ≤ 1000 ∧ takL 32 decT bs = (l, true) := by
  unfold putL
  by_cases h : l.length = 0 ∨ 4 < l.length
  · rw [if_pos h]
    exact .inl rfl
  · rw [if_neg h]
    have h2 : (l.all fun x => (trB x).isSome) = true := List.all_eq_true.2 fun x _ => rfl
    rw [if_pos h2]
    refine .inr ⟨_, rfl, ?_, ?_⟩
    · have := pre_len trB l 32 (fun x => Nat.le_of_eq (trB_len x)) l.length
      unfold pre at this
      rw [List.take_of_length_le (Nat.le_refl _)] at this
      have h4 : l.length * 32 ≤ 4 * 32 := Nat.mul_le_mul_right _ (by omega)
      omega
    · rw [takL_flat 32 (by omega) decT _ l (fun x _ => trB_len x) (by omega) (by omega)]
      congr 1
      conv => rhs; rw [← List.map_id l]
      apply List.map_congr_left
      intro x hx
      exact decT_le x (hok x hx)
theorem putL_le {α : Type} (f : α → Option (List UInt8)) (l : List α) (bs : List UInt8) (h : putL f l = (bs, 0)) : l.length ≤ 4 := by
  unfold putL at h
  by_cases h2 : l.length = 0 ∨ 4 < l.length
  · rw [if_pos h2] at h
    cases h
  · omega
theorem putL_pos {α : Type} (f : α → Option (List UInt8)) (l : List α) (bs : List UInt8) (h : putL f l = (bs, 0)) : 0 < l.length := by
  unfold putL at h
  by_cases h2 : l.length = 0 ∨ 4 < l.length
  · rw [if_pos h2] at h
    cases h
  · omega
theorem tail_one (a b : UInt8) : (⟨[a, b].toArray⟩ : ByteArray).extract 1 2 = ⟨[b].toArray⟩ := by
  apply ByteArray.ext
  simp

set_option maxHeartbeats 1000000 in
theorem one_no (A : Option Addr) (n c : Nat) (A1 : Option Addr) (l : List Ac) (n1 c1 m1 : Nat) (A2 : Option Addr) (m : List Tr) (n2 c2 m2 : Nat) (S : Lg) (w : World)
    (HPL : Hid (∀ W : World, Below w.heap.size w W → Calls Try.prog 20 #[.slice A n c] W (NG 63 W S (fun p => .pointer (some ⟨p, 0, none⟩)))))
    (hm1 : m1 = l.length) (hm2 : m2 = m.length) (hc1 : m1 ≤ c1) (hc2 : m2 ≤ c2) (hq1 : min (n1 : Int) 4 = (m1 : Int)) (hq2 : min (n2 : Int) 4 = (m2 : Int)) (ho1 : ∀ x ∈ l, x.ok) (ho2 : ∀ x ∈ m, x.ok)
    (HR1 : Hid (Rd w w.heap.size A1 (rows Ac.cells l))) (HR2 : Hid (Rd w w.heap.size A2 (rows Tr.cells m))) (h : putL askB l = ([], 1) ∨ (putL trB m = ([], 1) ∧ ∃ bs, putL askB l = (bs, 0))) : Calls Try.prog 8 #[.slice A n c, .slice A1 n1 c1, .slice A2 n2 c2] w fun e w' => e = .returned (.bool true) ∧ Below w.heap.size w w' := by
  have HAW := hid awake_any
  have HPA := hid (fun W (hW : Below w.heap.size w W) => puta_list A1 l m1 c1 w.heap.size W (HR1.out.below hW (Nat.le_refl _)) hm1 hc1 hW.size ho1)
  have HPT := hid (fun W (hW : Below w.heap.size w W) => putt_list A2 m m2 c2 w.heap.size W (HR2.out.below hW (Nat.le_refl _)) hm2 hc2 hW.size ho2)
  have hi1 : (m1 : Int) ≤ (c1 : Int) := by omega
  have hi2 : (m2 : Int) ≤ (c2 : Int) := by omega
  rcases h with h | ⟨h, bs, h2⟩
  · rw [h] at HPA
    generalize putL trB m = r at *
    obtain ⟨bt, et⟩ := r
    clear h hm1 hm2 ho1 ho2 HR1 HR2 hc1 hc2
    go_enter Try.func8, Try.ntmps8
    go_wp2_with (first
    | (go_at_call 10; refine (HAW.out _).mono ?_; rintro e w1 ⟨rfl, hx⟩; have HBB := hid hx; clear hx)
    | (go_at_call 20; refine (HPL.out _ HBB.out).mono ?_; rintro e w2 ⟨p, fp, rfl, hk, hf, hx⟩; have HSK := hid (Sk.mk' HBB.out hk hf hx); clear hx hk hf HBB)
    | (go_at_call 20; refine (HPL.out _ HSK.out.frame).mono ?_; rintro e w2 ⟨q, fq, rfl, hk, hf, hx⟩; have HTK := hid (HSK.out.two hx hk hf); clear hx hk hf HSK)
    | (go_at_call 24; refine (HPA.out _ HTK.out.frame).mono ?_; rintro e w3 ⟨rfl, hx⟩; replace HTK := hid (HTK.out.below hx); clear hx HPA)
    | (go_at_call 25; refine (HPT.out _ HTK.out.frame).mono ?_; rintro e w4 ⟨rfl, hx⟩; replace HTK := hid (HTK.out.below hx); clear hx HPT))
    go_ret
    exact ⟨rfl, HTK.out.frame⟩
  · rw [h] at HPT
    rw [h2] at HPA
    clear h h2 hm1 hm2 ho1 ho2 HR1 HR2 hc1 hc2
    go_enter Try.func8, Try.ntmps8
    go_wp2_with (first
    | (go_at_call 10; refine (HAW.out _).mono ?_; rintro e w1 ⟨rfl, hx⟩; have HBB := hid hx; clear hx)
    | (go_at_call 20; refine (HPL.out _ HBB.out).mono ?_; rintro e w2 ⟨p, fp, rfl, hk, hf, hx⟩; have HSK := hid (Sk.mk' HBB.out hk hf hx); clear hx hk hf HBB)
    | (go_at_call 20; refine (HPL.out _ HSK.out.frame).mono ?_; rintro e w2 ⟨q, fq, rfl, hk, hf, hx⟩; have HTK := hid (HSK.out.two hx hk hf); clear hx hk hf HSK)
    | (go_at_call 24; refine (HPA.out _ HTK.out.frame).mono ?_; rintro e w3 ⟨rfl, hx⟩; replace HTK := hid (HTK.out.below hx); clear hx HPA)
    | (go_at_call 25; refine (HPT.out _ HTK.out.frame).mono ?_; rintro e w4 ⟨rfl, hx⟩; replace HTK := hid (HTK.out.below hx); clear hx HPT))
    go_ret
    exact ⟨rfl, HTK.out.frame⟩

set_option maxHeartbeats 4000000 in
theorem one_yes (A : Option Addr) (n c : Nat) (A1 : Option Addr) (l : List Ac) (n1 c1 m1 : Nat) (A2 : Option Addr) (m : List Tr) (n2 c2 m2 : Nat) (S : Lg) (w : World)
    (HPL : Hid (∀ W : World, Below w.heap.size w W → Calls Try.prog 20 #[.slice A n c] W (NG 63 W S (fun p => .pointer (some ⟨p, 0, none⟩)))))
    (hm1 : m1 = l.length) (hm2 : m2 = m.length) (hc1 : m1 ≤ c1) (hc2 : m2 ≤ c2) (hq1 : min (n1 : Int) 4 = (m1 : Int)) (hq2 : min (n2 : Int) 4 = (m2 : Int)) (ho1 : ∀ x ∈ l, x.ok) (ho2 : ∀ x ∈ m, x.ok)
    (HR1 : Hid (Rd w w.heap.size A1 (rows Ac.cells l))) (HR2 : Hid (Rd w w.heap.size A2 (rows Tr.cells m))) (bs bt : List UInt8) (ha : putL askB l = (bs, 0)) (ht : putL trB m = (bt, 0)) (hla : bs.length ≤ 1000) (hlt : bt.length ≤ 1000) (hta : takL 9 decA bs = (l.map strip, true)) (htt : takL 32 decT bt = (m, true)) (hfl : ∀ x ∈ l, x.flat) (h01 : 0 < m1) (h02 : 0 < m2) : Calls Try.prog 8 #[.slice A n c, .slice A1 n1 c1, .slice A2 n2 c2] w fun e w' => e = .returned (.bool true) ∧ Below w.heap.size w w' := by
  have HAW := hid awake_any
  have HPA := hid (fun W (hW : Below w.heap.size w W) => puta_list A1 l m1 c1 w.heap.size W (HR1.out.below hW (Nat.le_refl _)) hm1 hc1 hW.size ho1)
  have HPT := hid (fun W (hW : Below w.heap.size w W) => putt_list A2 m m2 c2 w.heap.size W (HR2.out.below hW (Nat.le_refl _)) hm2 hc2 hW.size ho2)
  rw [ha] at HPA
  rw [ht] at HPT
  have hi1 : (m1 : Int) ≤ (c1 : Int) := by omega
  have hi2 : (m2 : Int) ≤ (c2 : Int) := by omega
  obtain ⟨g1, o1, rfl⟩ := shape_of HR1.out Ac.len (by decide) (by omega)
  obtain ⟨g2, o2, rfl⟩ := shape_of HR2.out Tr.len (by decide) (by omega)
  have hd1 : S.doo 2 bs = runL mka S (l.map strip) := by
    unfold Lg.doo
    rw [if_pos rfl, hta]
    rfl
  obtain ⟨S1, hS1⟩ : ∃ S1, (runL mka S (l.map strip)).1 = S1 := ⟨_, rfl⟩
  have hd2 : S1.doo 3 bt = runL mkt S1 m := by
    unfold Lg.doo
    rw [if_neg (by decide), if_pos rfl, htt]
    rfl
  have HD1 := hid (fun p fp W (hg : Gk 63 p S fp W) => do_any p fp S ⟨bs.toArray⟩ W (by rw [← sb_len, sb_mk]; omega) hg 2)
  rw [sb_mk, hd1, hS1] at HD1
  have HD2 := hid (fun p fp W (hg : Gk 63 p S1 fp W) => do_any p fp S1 ⟨bt.toArray⟩ W (by rw [← sb_len, sb_mk]; omega) hg 3)
  rw [sb_mk, hd2] at HD2
  have HOA := hid (fun k (hk : k < l.length) W (hW : Below w.heap.size w W) => by
    have hr : Rd W w.heap.size (some ⟨g1, o1 + k * 4, none⟩) (rows Ac.cells [l[k]]) := by
      rw [rows1]
      intro _
      obtain ⟨g, o, e, hg, _⟩ := HR1.out (by intro e; have := rows_len (C := Ac.cells) Ac.len l; rw [e] at this; simp at this; omega)
      cases e
      exact ⟨g1, o1 + k * 4, rfl, hg, fun j u hu => range_of (HR1.out.below hW (Nat.le_refl _)) Ac.len hk j u hu⟩
    have := puta_list (some ⟨g1, o1 + k * 4, none⟩) [l[k]] 1 (c1 - k) w.heap.size W hr rfl (by omega) hW.size (by intro y hy; rw [List.mem_singleton.1 hy]; exact ho1 _ (List.getElem_mem hk))
    rw [(one_a _ (hfl _ (List.getElem_mem hk))).1] at this
    exact this)
  have HOT := hid (fun k (hk : k < m.length) W (hW : Below w.heap.size w W) => by
    have hr : Rd W w.heap.size (some ⟨g2, o2 + k * 4, none⟩) (rows Tr.cells [m[k]]) := by
      rw [rows1]
      intro _
      obtain ⟨g, o, e, hg, _⟩ := HR2.out (by intro e; have := rows_len (C := Tr.cells) Tr.len m; rw [e] at this; simp at this; omega)
      cases e
      exact ⟨g2, o2 + k * 4, rfl, hg, fun j u hu => range_of (HR2.out.below hW (Nat.le_refl _)) Tr.len hk j u hu⟩
    have := putt_list (some ⟨g2, o2 + k * 4, none⟩) [m[k]] 1 (c2 - k) w.heap.size W hr rfl (by omega) hW.size (by intro y hy; rw [List.mem_singleton.1 hy]; exact ho2 _ (List.getElem_mem hk))
    rw [(one_t _ (ho2 _ (List.getElem_mem hk))).1] at this
    exact this)
  have HDB := hid (fun k (hk : k < l.length) (T : Lg) p fp W (hg : Gk 63 p T fp W) => by
    have := do_any p fp T ⟨((askB l[k]).getD []).toArray⟩ W (by rw [← sb_len, sb_mk, (one_a _ (hfl _ (List.getElem_mem hk))).2.2]; omega) hg 2
    rw [sb_mk, doo_one_a T _ (hfl _ (List.getElem_mem hk))] at this
    exact this)
  have HDC := hid (fun k (hk : k < m.length) (T : Lg) p fp W (hg : Gk 63 p T fp W) => by
    have := do_any p fp T ⟨(trL m[k]).toArray⟩ W (by rw [← sb_len, sb_mk, trL_len]; omega) hg 3
    rw [sb_mk, doo_one_t T _ (ho2 _ (List.getElem_mem hk))] at this
    exact this)
  have HSTA : Hid (∀ k (hk : k < l.length), runL mka S ((l.map strip).take (k + 1)) = ((mka (runL mka S ((l.map strip).take k)).1 (strip l[k])).1, (runL mka S ((l.map strip).take k)).2 ++ (mka (runL mka S ((l.map strip).take k)).1 (strip l[k])).2)) := hid fun k hk => by
    have := runL_take mka S (l.map strip) k (by simpa using hk)
    rw [List.getElem_map] at this
    exact this
  have HSTT := hid (fun k (hk : k < m.length) => runL_take mkt S1 m k hk)
  have HLEA : Hid (∀ k, (runL mka S ((l.map strip).take k)).2.length ≤ 1 + k * 33) := hid fun k => by
    have h1 := runL_len mka 33 mka_len S ((l.map strip).take k)
    have h2 : ((l.map strip).take k).length * 33 ≤ k * 33 := Nat.mul_le_mul_right _ (List.length_take_le _ _)
    omega
  have HLET : Hid (∀ k, (runL mkt S1 (m.take k)).2.length ≤ 1 + k * 33) := hid fun k => by
    have h1 := runL_len mkt 33 mkt_len S1 (m.take k)
    have h2 : (m.take k).length * 33 ≤ k * 33 := Nat.mul_le_mul_right _ (List.length_take_le _ _)
    omega
  have HENA : Hid (runL mka S ((l.map strip).take m1) = runL mka S (l.map strip)) := hid (by rw [List.take_of_length_le (by rw [List.length_map]; omega)])
  have HENT : Hid (runL mkt S1 (m.take m2) = runL mkt S1 m) := hid (by rw [List.take_of_length_le (by omega)])
  have HM1 := hid hm1
  have HM2 := hid hm2
  have HS1 := hid hS1
  have HQA : Hid (m1 ≤ 4) := hid (by have := putL_le askB l bs ha; omega)
  have HQT : Hid (m2 ≤ 4) := hid (by have := putL_le trB m bt ht; omega)
  have HFW : Hid (∀ (X : Lg), runL mka S ((l.map strip).take 0) = (S, [0])) := hid fun _ => rfl
  clear hd1 hd2 ha ht hla hlt hta htt hfl ho1 ho2 hm1 hm2 hS1 HR1 HR2
  go_enter Try.func8, Try.ntmps8
  go_wp2_with (first
    | (go_at_call 10; refine (HAW.out _).mono ?_; rintro e w1 ⟨rfl, hx⟩; have HBB := hid hx; clear hx)
    | (go_at_call 20; refine (HPL.out _ HBB.out).mono ?_; rintro e w2 ⟨p, fp, rfl, hk, hf, hx⟩; have HSK := hid (Sk.mk' HBB.out hk hf hx); clear hx hk hf HBB)
    | (go_at_call 20; refine (HPL.out _ HSK.out.frame).mono ?_; rintro e w2 ⟨q, fq, rfl, hk, hf, hx⟩; have HTK := hid (HSK.out.two hx hk hf); clear hx hk hf HSK)
    | (go_at_call 24; refine (HPA.out _ HTK.out.frame).mono ?_; rintro e w3 ⟨rfl, hx⟩; replace HTK := hid (HTK.out.below hx); clear hx HPA)
    | (go_at_call 25; refine (HPT.out _ HTK.out.frame).mono ?_; rintro e w4 ⟨rfl, hx⟩; replace HTK := hid (HTK.out.below hx); clear hx HPT)
    | (go_at_call 12; refine (HTK.out.call1 (fun fp hk => HD1.out p fp _ hk)).mono ?_; rintro e w5 ⟨rfl, htk⟩; replace HTK := hid htk; clear htk HD1)
    | (go_at_call 12; refine (HTK.out.call1 (fun fp hk => HD2.out p fp _ hk)).mono ?_; rintro e w6 ⟨rfl, htk⟩; replace HTK := hid htk; clear htk HD2))
  obtain ⟨PX, hPX⟩ : ∃ PX, PX = (runL mkt S1 m).1 := ⟨_, rfl⟩
  rw [← hPX] at HTK
  have HPX := hid hPX
  clear hPX HPL HAW
  go_loopw [15, 17] (fun sv iv wr => ∃ k : Nat, k ≤ m1 ∧ iv = .int .i64 (k : Int) ∧ sv = .string ⟨(runL mka S ((l.map strip).take k)).2.toArray⟩ ∧ Tk w 63 p PX 63 q (runL mka S ((l.map strip).take k)).1 wr) (fun _ iv _ => m1 - (intOf iv).toNat)
  case atStart => exact ⟨0, by omega, rfl, rfl, HTK.out⟩
  case round =>
    obtain ⟨k, hk, rfl, rfl, htk⟩ := hrel
    have HT := hid htk
    have hlen := HLEA.out k
    by_cases hlt : k < m1
    · have hkl : k < l.length := by rw [← HM1.out]; exact hlt
      have HOK := hid (HOA.out k hkl)
      have HST := hid (HSTA.out k hkl)
      obtain ⟨T, hT⟩ : ∃ T, (runL mka S ((l.map strip).take k)).1 = T := ⟨_, rfl⟩
      obtain ⟨acc, hac⟩ : ∃ acc, (runL mka S ((l.map strip).take k)).2 = acc := ⟨_, rfl⟩
      rw [hT] at HT HST
      rw [hac] at hlen HST ⊢
      have HDK := hid (HDB.out k hkl T)
      obtain ⟨T', hT'⟩ : ∃ T', T.opn (strip l[k]) = T' := ⟨_, rfl⟩
      obtain ⟨code, hcode⟩ : ∃ code, UInt8.ofNat (T.ja (strip l[k])) = code := ⟨_, rfl⟩
      have hmk : mka T (strip l[k]) = (T', [code]) := by rw [← hT', ← hcode]; rfl
      rw [hmk] at HDK HST
      have HDK2 : Hid (∀ p fp W, Gk 63 p T fp W → Calls Try.prog 12 #[.pointer (some ⟨p, 0, none⟩), .int .i64 2, .string ⟨((askB l[k]).getD []).toArray⟩] W fun e w' => e = .returned (.string ⟨[0, code].toArray⟩) ∧ Gw 63 p W fp T' w') := hid HDK.out
      generalize (askB l[k]).getD [] = one at *
      clear hT hac hT' hcode hmk HDK htk
      have hq : ¬ (9223372036854775807 < acc.length + 1) := by have := HQA.out; omega
      have hk0 : (k : Int) < (m1 : Int) := by omega
      have hk1 : (k : Int) + 1 ≤ (c1 : Int) := by omega
      have hk2 : ¬ c1 = k := by omega
      go_wp2_with (first
        | (go_at_call 24; refine (HOK.out _ HT.out.frame).mono ?_; rintro e w7 ⟨rfl, hx⟩; replace HT := hid (HT.out.below hx); clear hx HOK)
        | (go_at_call 12; refine (HT.out.call2 (fun fp hk => HDK2.out q fp _ hk)).mono ?_; rintro e w8 ⟨rfl, htk⟩; replace HT := hid htk; clear htk))
      exact ⟨⟨k + 1, by omega, by go_num, by rw [HST.out, ← cat_mk, ← tail_one 0 code], by rw [HST.out]; exact HT.out⟩, by simp [intOf]; omega⟩
    · obtain rfl : k = m1 := by omega
      have HT2 : Hid (Tk w 63 p PX 63 q S1 wr) := hid (by have h := HT.out; rw [HENA.out, HS1.out] at h; exact h)
      rw [HENA.out]
      generalize (runL mka S (l.map strip)).2 = xs at *
      clear HT htk hlen HENA HSTA HLEA HOA HDB
      go_wp2_with fail
      go_loopw [16, 21] (fun sv iv wr => ∃ j : Nat, j ≤ m2 ∧ iv = .int .i64 (j : Int) ∧ sv = .string ⟨(runL mkt S1 (m.take j)).2.toArray⟩ ∧ Tk w 63 p PX 63 q (runL mkt S1 (m.take j)).1 wr) (fun _ iv _ => m2 - (intOf iv).toNat)
      case atStart => exact ⟨0, by omega, rfl, rfl, HT2.out⟩
      case round =>
        obtain ⟨j, hj, rfl, rfl, htk⟩ := hrel
        have HT := hid htk
        have hlen := HLET.out j
        by_cases hlt2 : j < m2
        · have hjl : j < m.length := by rw [← HM2.out]; exact hlt2
          have HOK := hid (HOT.out j hjl)
          have HST := hid (HSTT.out j hjl)
          obtain ⟨T, hT⟩ : ∃ T, (runL mkt S1 (m.take j)).1 = T := ⟨_, rfl⟩
          obtain ⟨acc, hac⟩ : ∃ acc, (runL mkt S1 (m.take j)).2 = acc := ⟨_, rfl⟩
          rw [hT] at HT HST
          rw [hac] at hlen HST ⊢
          have HDK := hid (HDC.out j hjl T)
          obtain ⟨T', hT'⟩ : ∃ T', T.mov m[j] = T' := ⟨_, rfl⟩
          obtain ⟨code, hcode⟩ : ∃ code, UInt8.ofNat (T.jt m[j]) = code := ⟨_, rfl⟩
          have hmk : mkt T m[j] = (T', [code]) := by rw [← hT', ← hcode]; rfl
          rw [hmk] at HDK HST
          have HDK2 : Hid (∀ p fp W, Gk 63 p T fp W → Calls Try.prog 12 #[.pointer (some ⟨p, 0, none⟩), .int .i64 3, .string ⟨(trL m[j]).toArray⟩] W fun e w' => e = .returned (.string ⟨[0, code].toArray⟩) ∧ Gw 63 p W fp T' w') := hid HDK.out
          generalize trL m[j] = one at *
          clear hT hac hT' hcode hmk HDK htk HT2
          have hq : ¬ (9223372036854775807 < acc.length + 1) := by have := HQT.out; omega
          have hk0 : (j : Int) < (m2 : Int) := by omega
          have hk1 : (j : Int) + 1 ≤ (c2 : Int) := by omega
          have hk2 : ¬ c2 = j := by omega
          go_wp2_with (first
            | (go_at_call 25; refine (HOK.out _ HT.out.frame).mono ?_; rintro e w7 ⟨rfl, hx⟩; replace HT := hid (HT.out.below hx); clear hx HOK)
            | (go_at_call 12; refine (HT.out.call2 (fun fp hk => HDK2.out q fp _ hk)).mono ?_; rintro e w8 ⟨rfl, htk⟩; replace HT := hid htk; clear htk))
          exact ⟨⟨j + 1, by omega, by go_num, by rw [HST.out, ← cat_mk, ← tail_one 0 code], by rw [HST.out]; exact HT.out⟩, by simp [intOf]; omega⟩
        · obtain rfl : j = m2 := by omega
          have HT3 : Hid (Tk w 63 p PX 63 q PX wr) := hid (by have h := HT.out; rw [HENT.out, ← HPX.out] at h; exact h)
          rw [HENT.out]
          generalize (runL mkt S1 m).2 = ys at *
          clear HT htk hlen HENT HSTT HLET HOT HDC HT2
          have HP1 : Hid True := hid trivial
          go_wp2_with (first
            | (go_at_call 18; have tok := HP1.out; refine (Sk.pack HT3.out.fst).mono ?_; rintro e w9 ⟨rfl, hx⟩; replace HT3 := hid (HT3.out.below hx); clear hx tok HP1)
            | (go_at_call 18; refine (Sk.pack HT3.out.snd).mono ?_; rintro e w10 ⟨rfl, hx⟩; replace HT3 := hid (HT3.out.below hx); clear hx))
          go_ret
          exact ⟨rfl, HT3.out.frame⟩
theorem one_any (A : Option Addr) (XS : List Ab) (n c : Nat) (A1 : Option Addr) (XS1 : List Ac) (n1 c1 : Nat) (A2 : Option Addr) (XS2 : List Tr) (n2 c2 : Nat) (w : World) (hr : Rd w w.heap.size A (rows Ab.cells XS)) (hn : n = XS.length) (hbig : n ≤ 9223372036854775807)
    (hr1 : Rd w w.heap.size A1 (rows Ac.cells XS1)) (hn1 : n1 = XS1.length) (hnc1 : n1 ≤ c1) (ho1 : ∀ x ∈ XS1, x.ok) (hb1 : n1 ≤ 9223372036854775807) (hr2 : Rd w w.heap.size A2 (rows Tr.cells XS2)) (hn2 : n2 = XS2.length) (hnc2 : n2 ≤ c2) (ho2 : ∀ x ∈ XS2, x.ok) (hb2 : n2 ≤ 9223372036854775807) :
    Calls Try.prog 8 #[.slice A n c, .slice A1 n1 c1, .slice A2 n2 c2] w fun e w' => e = .returned (.bool true) ∧ Below w.heap.size w w' := by
  have HPL := hid (fun W (hW : Below w.heap.size w W) => played_any A XS n c W ((hr.below hW (Nat.le_refl _)).more hW.size) hn hbig)
  generalize playN XS = S at *
  have hR1 : Rd w w.heap.size A1 (rows Ac.cells (XS1.take 4)) := by rw [rows_take Ac.len]; exact hr1.take _
  have hR2 : Rd w w.heap.size A2 (rows Tr.cells (XS2.take 4)) := by rw [rows_take Tr.len]; exact hr2.take _
  have k1 : ∀ x ∈ XS1.take 4, x.ok := fun x hx => ho1 x (List.mem_of_mem_take hx)
  have k2 : ∀ x ∈ XS2.take 4, x.ok := fun x hx => ho2 x (List.mem_of_mem_take hx)
  have l1 : (XS1.take 4).length = min 4 n1 := by rw [List.length_take, hn1]
  have l2 : (XS2.take 4).length = min 4 n2 := by rw [List.length_take, hn2]
  rcases twoa _ k1 with e1 | ⟨bs, e1, f1, f2, f3⟩
  · exact one_no A n c A1 (XS1.take 4) n1 c1 _ A2 (XS2.take 4) n2 c2 _ S w HPL rfl rfl (by omega) (by omega) (by omega) (by omega) k1 k2 (hid hR1) (hid hR2) (.inl e1)
  · rcases twot _ k2 with e2 | ⟨bt, e2, f4, f5⟩
    · exact one_no A n c A1 (XS1.take 4) n1 c1 _ A2 (XS2.take 4) n2 c2 _ S w HPL rfl rfl (by omega) (by omega) (by omega) (by omega) k1 k2 (hid hR1) (hid hR2) (.inr ⟨e2, bs, e1⟩)
    · exact one_yes A n c A1 (XS1.take 4) n1 c1 _ A2 (XS2.take 4) n2 c2 _ S w HPL rfl rfl (by omega) (by omega) (by omega) (by omega) k1 k2 (hid hR1) (hid hR2) bs bt e1 e2 f1 f4 f2 f5 f3 (putL_pos askB _ bs e1) (putL_pos trB _ bt e2)
end Go.Proofs.Ytbofabmgfkploaa
