/-
  The walks of package ledger's each, for each of its four uses.
-/
import Derived.Test.YtdimlfjepliflaaGreatDoorD11
import Derived.Test.YtdimlfjepliflaaGreatDoorD13
import Derived.Test.YtdimlfjepliflaaGreatDoorD10
import Derived.Test.YtdimlfjepliflaaGreatDoorD09
import Derived.Test.YtdimlfjepliflaaGreatDoorD08
namespace Go.Proofs.YtdimlfjepliflaaGreatDoor
open Go.RowKit
set_option maxRecDepth 10000

theorem runL_len {α : Type} (f : Lg → α → Lg × List UInt8) (m : Nat) (hf : ∀ S x, (f S x).2.length ≤ m) (S : Lg) (l : List α) : (runL f S l).2.length ≤ 1 + l.length * m := by
  have key : ∀ (l : List α) (r : Lg × List UInt8), (l.foldl (fun r x => ((f r.1 x).1, r.2 ++ (f r.1 x).2)) r).2.length ≤ r.2.length + l.length * m := by
    intro l
    induction l with
    | nil => intro r; simp
    | cons x t ih =>
      intro r
      have h1 := ih ((f r.1 x).1, r.2 ++ (f r.1 x).2)
      have h2 := hf r.1 x
      simp only [List.foldl_cons, List.length_cons, Nat.add_mul, Nat.one_mul] at h1 ⊢
      rw [List.length_append] at h1
      omega
  exact key l (S, [0])
theorem mka_len (S : Lg) (x : Ac) : (mka S x).2.length ≤ 33 := by simp [mka]
theorem mkt_len (S : Lg) (x : Tr) : (mkt S x).2.length ≤ 33 := by simp [mkt]
theorem tela_len (S : Lg) (x : Nat) : (tela S x).2.length ≤ 33 := by
  have := acB_le (S.ac (S.fa x))
  simp only [tela]
  split <;> simp <;> omega
theorem telt_len (S : Lg) (x : Nat) : (telt S x).2.length ≤ 33 := by
  have := trL_le (S.tr (S.ft x))
  simp only [telt]
  split <;> simp <;> omega
theorem Gw.rdA {X p : Nat} {w w1 wr : World} {fp : List Nat} {S : Lg} {A : Option Addr} {xs : List Value} (h : Gw X p w1 fp S wr) (hr : Rd w1 w1.heap.size A xs) (hn : NewA w A) (hf : ∀ b ∈ fp, b < w.heap.size) : Rd wr w1.heap.size A xs := fun hne => by
  obtain ⟨g, o, rfl, hg, hc⟩ := (show _ from hr) hne
  have hg2 : w.heap.size ≤ g := hn _ rfl
  exact h.rd (B := w1.heap.size) (fun _ => ⟨g, o, rfl, hg, hc⟩) (fun hm => by have := hf g hm; omega) (Nat.le_refl _) hne
set_option maxHeartbeats 400000 in
theorem each_mka_no (p : Nat) (S : Lg) (s : ByteArray) (w : World) (hs : s.size ≤ 140737488355328) (hno : (takL 9 decA (sb s)).2 = false) :
    Calls Tryz.prog 113 #[.string s, .func (.func 114) #[] #[], .func (.func 115) #[.pointer (some ⟨p, 0, none⟩)] #[]] w (SE w (eachL mka S (takL 9 decA (sb s))).2) := by
  have HT := hid (taka_list s w hs)
  have e : (eachL mka S (takL 9 decA (sb s))).2 = [1] := by
    unfold eachL
    rw [if_neg (by rw [hno]; decide)]
  rw [e]
  obtain ⟨⟨l, b⟩, hr⟩ : ∃ r, takL 9 decA (sb s) = r := ⟨_, rfl⟩
  rw [hr] at hno HT
  obtain rfl : b = false := hno
  have HT2 : Hid (Calls Tryz.prog 114 #[.string s] w fun e w' => ∃ A c, e = .returned (.tuple #[.slice A l.length c, .bool false]) ∧ Below w.heap.size w w') := hid (HT.out.mono fun e w' ⟨A, c, h1, _, _, h2, _⟩ => ⟨A, c, h1, h2⟩)
  clear e HT hr hs
  go_enter Tryz.func113, Tryz.ntmps113
  go_wp2_with (go_at_call 114; refine HT2.out.mono ?_; rintro e w1 ⟨A, c, rfl, hb1⟩)
  go_ret
  exact ⟨rfl, hb1⟩
set_option maxHeartbeats 1000000 in
theorem each_mka_yes (p : Nat) (fp : List Nat) (S : Lg) (s : ByteArray) (w : World) (hs : s.size ≤ 140737488355328) (h : Gk 123 p S fp w) (l : List Ac) (hr : takL 9 decA (sb s) = (l, true)) :
    Calls Tryz.prog 113 #[.string s, .func (.func 114) #[] #[], .func (.func 115) #[.pointer (some ⟨p, 0, none⟩)] #[]] w fun e w' => e = .returned (.string ⟨(runL mka S l).2.toArray⟩) ∧ Gw 123 p w fp (runL mka S l).1 w' := by
  have HT := hid (taka_list s w hs)
  have hle := takL_le 9 decA (sb s)
  have hok := takL_all (n := 9) (s := sb s) decA_flat
  rw [hr] at HT hle hok
  simp only at hle hok
  obtain ⟨n, hn⟩ : ∃ n, n = l.length := ⟨_, rfl⟩
  have HT2 : Hid (Calls Tryz.prog 114 #[.string s] w fun e w' => ∃ A c, e = .returned (.tuple #[.slice A n c, .bool true]) ∧ n ≤ c ∧ Rd w' w'.heap.size A (rows Ac.cells l) ∧ Below w.heap.size w w' ∧ NewA w A) := hid (by rw [hn]; exact HT.out)
  rw [← hn] at hle
  have HN := hid hn
  have HOK := hid (fun k (hk : k < l.length) => hok l[k] (List.getElem_mem hk))
  have HLT := hid h.lt
  have HH := hid h
  have HZ := hid acSize
  have HEND : Hid (runL mka S (l.take n) = runL mka S l) := hid (by rw [List.take_of_length_le (by omega)])
  have HST := hid (fun k (hk : k < l.length) => runL_take mka S l k hk)
  have HLE := hid (fun k => runL_len mka 33 mka_len S (l.take k))
  have HTL : Hid (∀ k, (l.take k).length ≤ k) := hid fun k => List.length_take_le _ _
  clear HT hr hs hok hn h
  go_enter Tryz.func113, Tryz.ntmps113
  go_wp2_with (go_at_call 114; refine HT2.out.mono ?_; rintro e w1 ⟨A, c, rfl, hnc, hrd1, hb1, hnew⟩)
  have HRD := hid hrd1
  have HB1 := hid hb1
  have HNEW := hid hnew
  have HG1 := hid (Gw.start (HH.out.below hb1))
  clear hrd1 hb1 hnew HT2
  go_loopw [9, 22] (fun sv i wr => ∃ k : Nat, k ≤ n ∧ i = .int .i64 k ∧ sv = .string ⟨(runL mka S (l.take k)).2.toArray⟩ ∧ Gw 123 p w1 fp (runL mka S (l.take k)).1 wr) (fun _ i _ => n - (intOf i).toNat)
  case atStart => exact ⟨0, by omega, rfl, rfl, HG1.out⟩
  case round =>
    obtain ⟨k, hk, rfl, rfl, hgw⟩ := hrel
    have HGW := hid hgw
    have hlen := HLE.out k
    have hlen2 := HTL.out k
    by_cases hlt : k < n
    · have hkl : k < l.length := by rw [← HN.out]; exact hlt
      have hrd := hgw.rdA HRD.out HNEW.out HLT.out
      have hne : rows Ac.cells l ≠ [] := by
        intro e
        have := rows_len (C := Ac.cells) Ac.len l
        rw [e] at this
        simp at this
        omega
      obtain ⟨ga, o, rfl, hga, hx⟩ := (show _ from hrd) hne
      clear hx
      have HS := hid (HST.out k hkl)
      have h2 := mka_len (runL mka S (l.take k)).1 l[k]
      obtain ⟨SK, hSK⟩ : ∃ SK, (runL mka S (l.take k)).1 = SK := ⟨_, rfl⟩
      rw [hSK] at h2 HGW HS
      obtain ⟨acc, hac⟩ : ∃ acc, (runL mka S (l.take k)).2 = acc := ⟨_, rfl⟩
      rw [hac] at hlen HS ⊢
      obtain ⟨bs, hbs⟩ : ∃ bs, (mka SK l[k]).2 = bs := ⟨_, rfl⟩
      obtain ⟨SN, hSN⟩ : ∃ SN, (mka SK l[k]).1 = SN := ⟨_, rfl⟩
      rw [hbs] at h2 HS
      rw [hSN] at HS
      have HBS := hid hbs
      have HSN := hid hSN
      have hq : ¬ (9223372036854775807 < acc.length + bs.length) := by omega
      clear hSK hac hbs hSN
      have HC4 : Hid ((Ac.cells l[k]).length = 4) := hid (Ac.len _)
      have HC1 : Hid ((Ac.cells l[k]).all (·.oneCell') = true) := hid rfl
      have HRG := hid (hrd.range Ac.len k hkl)
      have HX : Hid (∀ fq W, Gk 123 p SK fq W → Calls Tryz.prog 115 #[.pointer (some ⟨p, 0, none⟩), .agg (Ac.cells l[k]).toArray] W fun e w' => e = .returned (.string ⟨bs.toArray⟩) ∧ Gw 123 p W fq SN w') := hid fun fq W hg => by
        rw [← HBS.out, ← HSN.out]
        exact makea_any p fq SK l[k] W hg (HOK.out k hkl)
      generalize Ac.cells l[k] = X at *
      clear hrd hne hgw hlen hlen2 h2
      go_wp2_with (first
        | (refine wpList_load_mid rfl 88 (.tmp 24) rfl ga (o + k * 4) rfl X _ HRG.out Tryz.underlying88 rfl (by rw [HC4.out]; exact HZ.out) ?_)
        | (refine wpl_store_st rfl (.tmp 11) (.tmp 25) rfl HZ.out wr.heap.size ac0.cells X rfl rfl (Row.new _ _ _) ?_ (hid rfl) (hid HC4.out) (hid HC1.out); intro w2 hr2 hg2; have hb2 : Below wr.heap.size wr w2 := ((Below.refl _ _).alloc (Nat.le_refl _) _).trans (below_grown hg2 (Nat.le_refl _) (by simp)))
        | (refine wpList_load_row rfl 88 (.tmp 11) rfl wr.heap.size rfl 88 X.toArray (0, 0) _ hr2.arr' Tryz.underlying88 rfl (by rw [List.size_toArray, HC4.out]; exact HZ.out) ?_)
        | (go_at_call 115; refine ((HGW.out.below hb2).call (fun fq hk => HX.out fq w2 hk)).mono ?_; rintro e w3 ⟨rfl, hg3⟩; have HG3 := hid hg3; clear hg3))
      exact ⟨⟨k + 1, by omega, by go_num, by rw [HS.out, ← cat_mk], by rw [HS.out]; exact HG3.out⟩, by simp [intOf]; omega⟩
    · obtain rfl : k = n := by omega
      clear hgw
      go_wp2_with fail
      go_ret
      refine ⟨by rw [HEND.out]; rfl, ?_⟩
      rw [← HEND.out]
      obtain ⟨fq, k1, k2, k3⟩ := HGW.out
      have hs1 := HB1.out.size
      exact ⟨fq, k1, ((Fr.of_below HB1.out).mono (fq := fp) (by simp)).trans k2 (fun b hb _ => hb), fun g hg => by
        rcases k3 g hg with h | h
        · exact .inl h
        · right; omega⟩
theorem each_mka (p : Nat) (fp : List Nat) (S : Lg) (s : ByteArray) (w : World) (hs : s.size ≤ 140737488355328) (h : Gk 123 p S fp w) :
    Calls Tryz.prog 113 #[.string s, .func (.func 114) #[] #[], .func (.func 115) #[.pointer (some ⟨p, 0, none⟩)] #[]] w fun e w' => e = .returned (.string ⟨(eachL mka S (takL 9 decA (sb s))).2.toArray⟩) ∧ Gw 123 p w fp (eachL mka S (takL 9 decA (sb s))).1 w' := by
  cases hb : (takL 9 decA (sb s)).2
  · refine (each_mka_no p S s w hs hb).mono fun e w' hh => ⟨hh.1, ?_⟩
    unfold eachL
    rw [if_neg (by rw [hb]; decide)]
    exact (Gw.start h).below hh.2
  · unfold eachL
    rw [if_pos hb]
    exact each_mka_yes p fp S s w hs h _ (Prod.ext rfl hb)
set_option maxHeartbeats 400000 in
theorem each_mkt_no (p : Nat) (S : Lg) (s : ByteArray) (w : World) (hs : s.size ≤ 140737488355328) (hno : (takL 32 decT (sb s)).2 = false) :
    Calls Tryz.prog 116 #[.string s, .func (.func 117) #[] #[], .func (.func 118) #[.pointer (some ⟨p, 0, none⟩)] #[]] w (SE w (eachL mkt S (takL 32 decT (sb s))).2) := by
  have HT := hid (takt_list s w hs)
  have e : (eachL mkt S (takL 32 decT (sb s))).2 = [1] := by
    unfold eachL
    rw [if_neg (by rw [hno]; decide)]
  rw [e]
  obtain ⟨⟨l, b⟩, hr⟩ : ∃ r, takL 32 decT (sb s) = r := ⟨_, rfl⟩
  rw [hr] at hno HT
  obtain rfl : b = false := hno
  have HT2 : Hid (Calls Tryz.prog 117 #[.string s] w fun e w' => ∃ A c, e = .returned (.tuple #[.slice A l.length c, .bool false]) ∧ Below w.heap.size w w') := hid (HT.out.mono fun e w' ⟨A, c, h1, _, _, h2, _⟩ => ⟨A, c, h1, h2⟩)
  clear e HT hr hs
  go_enter Tryz.func116, Tryz.ntmps116
  go_wp2_with (go_at_call 117; refine HT2.out.mono ?_; rintro e w1 ⟨A, c, rfl, hb1⟩)
  go_ret
  exact ⟨rfl, hb1⟩
set_option maxHeartbeats 1000000 in
theorem each_mkt_yes (p : Nat) (fp : List Nat) (S : Lg) (s : ByteArray) (w : World) (hs : s.size ≤ 140737488355328) (h : Gk 123 p S fp w) (l : List Tr) (hr : takL 32 decT (sb s) = (l, true)) :
    Calls Tryz.prog 116 #[.string s, .func (.func 117) #[] #[], .func (.func 118) #[.pointer (some ⟨p, 0, none⟩)] #[]] w fun e w' => e = .returned (.string ⟨(runL mkt S l).2.toArray⟩) ∧ Gw 123 p w fp (runL mkt S l).1 w' := by
  have HT := hid (takt_list s w hs)
  have hle := takL_le 32 decT (sb s)
  have hok := takL_all (n := 32) (s := sb s) decT_ok
  rw [hr] at HT hle hok
  simp only at hle hok
  obtain ⟨n, hn⟩ : ∃ n, n = l.length := ⟨_, rfl⟩
  have HT2 : Hid (Calls Tryz.prog 117 #[.string s] w fun e w' => ∃ A c, e = .returned (.tuple #[.slice A n c, .bool true]) ∧ n ≤ c ∧ Rd w' w'.heap.size A (rows Tr.cells l) ∧ Below w.heap.size w w' ∧ NewA w A) := hid (by rw [hn]; exact HT.out)
  rw [← hn] at hle
  have HN := hid hn
  have HOK := hid (fun k (hk : k < l.length) => hok l[k] (List.getElem_mem hk))
  have HLT := hid h.lt
  have HH := hid h
  have HZ := hid trSize
  have HEND : Hid (runL mkt S (l.take n) = runL mkt S l) := hid (by rw [List.take_of_length_le (by omega)])
  have HST := hid (fun k (hk : k < l.length) => runL_take mkt S l k hk)
  have HLE := hid (fun k => runL_len mkt 33 mkt_len S (l.take k))
  have HTL : Hid (∀ k, (l.take k).length ≤ k) := hid fun k => List.length_take_le _ _
  clear HT hr hs hok hn h
  go_enter Tryz.func116, Tryz.ntmps116
  go_wp2_with (go_at_call 117; refine HT2.out.mono ?_; rintro e w1 ⟨A, c, rfl, hnc, hrd1, hb1, hnew⟩)
  have HRD := hid hrd1
  have HB1 := hid hb1
  have HNEW := hid hnew
  have HG1 := hid (Gw.start (HH.out.below hb1))
  clear hrd1 hb1 hnew HT2
  go_loopw [9, 22] (fun sv i wr => ∃ k : Nat, k ≤ n ∧ i = .int .i64 k ∧ sv = .string ⟨(runL mkt S (l.take k)).2.toArray⟩ ∧ Gw 123 p w1 fp (runL mkt S (l.take k)).1 wr) (fun _ i _ => n - (intOf i).toNat)
  case atStart => exact ⟨0, by omega, rfl, rfl, HG1.out⟩
  case round =>
    obtain ⟨k, hk, rfl, rfl, hgw⟩ := hrel
    have HGW := hid hgw
    have hlen := HLE.out k
    have hlen2 := HTL.out k
    by_cases hlt : k < n
    · have hkl : k < l.length := by rw [← HN.out]; exact hlt
      have hrd := hgw.rdA HRD.out HNEW.out HLT.out
      have hne : rows Tr.cells l ≠ [] := by
        intro e
        have := rows_len (C := Tr.cells) Tr.len l
        rw [e] at this
        simp at this
        omega
      obtain ⟨ga, o, rfl, hga, hx⟩ := (show _ from hrd) hne
      clear hx
      have HS := hid (HST.out k hkl)
      have h2 := mkt_len (runL mkt S (l.take k)).1 l[k]
      obtain ⟨SK, hSK⟩ : ∃ SK, (runL mkt S (l.take k)).1 = SK := ⟨_, rfl⟩
      rw [hSK] at h2 HGW HS
      obtain ⟨acc, hac⟩ : ∃ acc, (runL mkt S (l.take k)).2 = acc := ⟨_, rfl⟩
      rw [hac] at hlen HS ⊢
      obtain ⟨bs, hbs⟩ : ∃ bs, (mkt SK l[k]).2 = bs := ⟨_, rfl⟩
      obtain ⟨SN, hSN⟩ : ∃ SN, (mkt SK l[k]).1 = SN := ⟨_, rfl⟩
      rw [hbs] at h2 HS
      rw [hSN] at HS
      have HBS := hid hbs
      have HSN := hid hSN
      have hq : ¬ (9223372036854775807 < acc.length + bs.length) := by omega
      clear hSK hac hbs hSN
      have HC4 : Hid ((Tr.cells l[k]).length = 4) := hid (Tr.len _)
      have HC1 : Hid ((Tr.cells l[k]).all (·.oneCell') = true) := hid rfl
      have HRG := hid (hrd.range Tr.len k hkl)
      have HX : Hid (∀ fq W, Gk 123 p SK fq W → Calls Tryz.prog 118 #[.pointer (some ⟨p, 0, none⟩), .agg (Tr.cells l[k]).toArray] W fun e w' => e = .returned (.string ⟨bs.toArray⟩) ∧ Gw 123 p W fq SN w') := hid fun fq W hg => by
        rw [← HBS.out, ← HSN.out]
        exact maket_any p fq SK l[k] W hg (HOK.out k hkl)
      generalize Tr.cells l[k] = X at *
      clear hrd hne hgw hlen hlen2 h2
      go_wp2_with (first
        | (refine wpList_load_mid rfl 90 (.tmp 24) rfl ga (o + k * 4) rfl X _ HRG.out Tryz.underlying90 rfl (by rw [HC4.out]; exact HZ.out) ?_)
        | (refine wpl_store_st rfl (.tmp 11) (.tmp 25) rfl HZ.out wr.heap.size tr0.cells X rfl rfl (Row.new _ _ _) ?_ (hid rfl) (hid HC4.out) (hid HC1.out); intro w2 hr2 hg2; have hb2 : Below wr.heap.size wr w2 := ((Below.refl _ _).alloc (Nat.le_refl _) _).trans (below_grown hg2 (Nat.le_refl _) (by simp)))
        | (refine wpList_load_row rfl 90 (.tmp 11) rfl wr.heap.size rfl 90 X.toArray (0, 0) _ hr2.arr' Tryz.underlying90 rfl (by rw [List.size_toArray, HC4.out]; exact HZ.out) ?_)
        | (go_at_call 118; refine ((HGW.out.below hb2).call (fun fq hk => HX.out fq w2 hk)).mono ?_; rintro e w3 ⟨rfl, hg3⟩; have HG3 := hid hg3; clear hg3))
      exact ⟨⟨k + 1, by omega, by go_num, by rw [HS.out, ← cat_mk], by rw [HS.out]; exact HG3.out⟩, by simp [intOf]; omega⟩
    · obtain rfl : k = n := by omega
      clear hgw
      go_wp2_with fail
      go_ret
      refine ⟨by rw [HEND.out]; rfl, ?_⟩
      rw [← HEND.out]
      obtain ⟨fq, k1, k2, k3⟩ := HGW.out
      have hs1 := HB1.out.size
      exact ⟨fq, k1, ((Fr.of_below HB1.out).mono (fq := fp) (by simp)).trans k2 (fun b hb _ => hb), fun g hg => by
        rcases k3 g hg with h | h
        · exact .inl h
        · right; omega⟩
theorem each_mkt (p : Nat) (fp : List Nat) (S : Lg) (s : ByteArray) (w : World) (hs : s.size ≤ 140737488355328) (h : Gk 123 p S fp w) :
    Calls Tryz.prog 116 #[.string s, .func (.func 117) #[] #[], .func (.func 118) #[.pointer (some ⟨p, 0, none⟩)] #[]] w fun e w' => e = .returned (.string ⟨(eachL mkt S (takL 32 decT (sb s))).2.toArray⟩) ∧ Gw 123 p w fp (eachL mkt S (takL 32 decT (sb s))).1 w' := by
  cases hb : (takL 32 decT (sb s)).2
  · refine (each_mkt_no p S s w hs hb).mono fun e w' hh => ⟨hh.1, ?_⟩
    unfold eachL
    rw [if_neg (by rw [hb]; decide)]
    exact (Gw.start h).below hh.2
  · unfold eachL
    rw [if_pos hb]
    exact each_mkt_yes p fp S s w hs h _ (Prod.ext rfl hb)
set_option maxHeartbeats 400000 in
theorem each_tela_no (p : Nat) (S : Lg) (s : ByteArray) (w : World) (hs : s.size ≤ 140737488355328) (hno : (takL 8 decI (sb s)).2 = false) :
    Calls Tryz.prog 119 #[.string s, .func (.func 120) #[] #[], .func (.func 121) #[.pointer (some ⟨p, 0, none⟩)] #[]] w (SE w (eachL tela S (takL 8 decI (sb s))).2) := by
  have HT := hid (taki_list s w hs)
  have e : (eachL tela S (takL 8 decI (sb s))).2 = [1] := by
    unfold eachL
    rw [if_neg (by rw [hno]; decide)]
  rw [e]
  obtain ⟨⟨l, b⟩, hr⟩ : ∃ r, takL 8 decI (sb s) = r := ⟨_, rfl⟩
  rw [hr] at hno HT
  obtain rfl : b = false := hno
  have HT2 : Hid (Calls Tryz.prog 120 #[.string s] w fun e w' => ∃ A c, e = .returned (.tuple #[.slice A l.length c, .bool false]) ∧ Below w.heap.size w w') := hid (HT.out.mono fun e w' ⟨A, c, h1, _, _, h2, _⟩ => ⟨A, c, h1, h2⟩)
  clear e HT hr hs
  go_enter Tryz.func119, Tryz.ntmps119
  go_wp2_with (go_at_call 120; refine HT2.out.mono ?_; rintro e w1 ⟨A, c, rfl, hb1⟩)
  go_ret
  exact ⟨rfl, hb1⟩
set_option maxHeartbeats 1000000 in
theorem each_tela_yes (p : Nat) (fp : List Nat) (S : Lg) (s : ByteArray) (w : World) (hs : s.size ≤ 140737488355328) (h : Gk 123 p S fp w) (l : List Nat) (hr : takL 8 decI (sb s) = (l, true)) :
    Calls Tryz.prog 119 #[.string s, .func (.func 120) #[] #[], .func (.func 121) #[.pointer (some ⟨p, 0, none⟩)] #[]] w fun e w' => e = .returned (.string ⟨(runL tela S l).2.toArray⟩) ∧ Gw 123 p w fp (runL tela S l).1 w' := by
  have HT := hid (taki_list s w hs)
  have hle := takL_le 8 decI (sb s)
  have hok := takL_all (n := 8) (s := sb s) decI_ok
  rw [hr] at HT hle hok
  simp only at hle hok
  obtain ⟨n, hn⟩ : ∃ n, n = l.length := ⟨_, rfl⟩
  have HT2 : Hid (Calls Tryz.prog 120 #[.string s] w fun e w' => ∃ A c, e = .returned (.tuple #[.slice A n c, .bool true]) ∧ n ≤ c ∧ Rd w' w'.heap.size A (rows Ic l) ∧ Below w.heap.size w w' ∧ NewA w A) := hid (by rw [hn]; exact HT.out)
  rw [← hn] at hle
  have HN := hid hn
  have HOK := hid (fun k (hk : k < l.length) => hok l[k] (List.getElem_mem hk))
  have HLT := hid h.lt
  have HH := hid h
  have HEND : Hid (runL tela S (l.take n) = runL tela S l) := hid (by rw [List.take_of_length_le (by omega)])
  have HST := hid (fun k (hk : k < l.length) => runL_take tela S l k hk)
  have HLE := hid (fun k => runL_len tela 33 tela_len S (l.take k))
  have HTL : Hid (∀ k, (l.take k).length ≤ k) := hid fun k => List.length_take_le _ _
  clear HT hr hs hok hn h
  go_enter Tryz.func119, Tryz.ntmps119
  go_wp2_with (go_at_call 120; refine HT2.out.mono ?_; rintro e w1 ⟨A, c, rfl, hnc, hrd1, hb1, hnew⟩)
  have HRD := hid hrd1
  have HB1 := hid hb1
  have HNEW := hid hnew
  have HG1 := hid (Gw.start (HH.out.below hb1))
  clear hrd1 hb1 hnew HT2
  go_loopw [9, 22] (fun sv i wr => ∃ k : Nat, k ≤ n ∧ i = .int .i64 k ∧ sv = .string ⟨(runL tela S (l.take k)).2.toArray⟩ ∧ Gw 123 p w1 fp (runL tela S (l.take k)).1 wr) (fun _ i _ => n - (intOf i).toNat)
  case atStart => exact ⟨0, by omega, rfl, rfl, HG1.out⟩
  case round =>
    obtain ⟨k, hk, rfl, rfl, hgw⟩ := hrel
    have HGW := hid hgw
    have hlen := HLE.out k
    have hlen2 := HTL.out k
    by_cases hlt : k < n
    · have hkl : k < l.length := by rw [← HN.out]; exact hlt
      have hrd := hgw.rdA HRD.out HNEW.out HLT.out
      have hne : rows Ic l ≠ [] := by
        intro e
        have := rows_len (C := Ic) Ic_len l
        rw [e] at this
        simp at this
        omega
      obtain ⟨ga, o, rfl, hga, hx⟩ := (show _ from hrd) hne
      clear hx
      have HS := hid (HST.out k hkl)
      have h2 := tela_len (runL tela S (l.take k)).1 l[k]
      obtain ⟨SK, hSK⟩ : ∃ SK, (runL tela S (l.take k)).1 = SK := ⟨_, rfl⟩
      rw [hSK] at h2 HGW HS
      obtain ⟨acc, hac⟩ : ∃ acc, (runL tela S (l.take k)).2 = acc := ⟨_, rfl⟩
      rw [hac] at hlen HS ⊢
      obtain ⟨bs, hbs⟩ : ∃ bs, (tela SK l[k]).2 = bs := ⟨_, rfl⟩
      obtain ⟨SN, hSN⟩ : ∃ SN, (tela SK l[k]).1 = SN := ⟨_, rfl⟩
      rw [hbs] at h2 HS
      rw [hSN] at HS
      have HBS := hid hbs
      have HSN := hid hSN
      have hq : ¬ (9223372036854775807 < acc.length + bs.length) := by omega
      clear hSK hac hbs hSN
      have hcl : wr.cell? ⟨ga, o + k, none⟩ = some (.int .u64 (l[k] : Int)) := by
        have := hrd.range Ic_len k hkl 0 _ rfl
        rw [Nat.mul_one] at this
        exact this
      have HX : Hid (∀ fq W, Gk 123 p SK fq W → Calls Tryz.prog 121 #[.pointer (some ⟨p, 0, none⟩), .int .u64 (l[k] : Int)] W fun e w' => e = .returned (.string ⟨bs.toArray⟩) ∧ Gw 123 p W fq SN w') := hid fun fq W hg => by
        rw [← HBS.out, ← HSN.out]
        exact tela_any p fq SK l[k] W hg
      generalize l[k] = X at *
      clear hrd hne hgw hlen hlen2 h2
      go_wp2_with ((go_at_call 121; refine (HGW.out.call (fun fq hk => HX.out fq wr hk)).mono ?_; rintro e w3 ⟨rfl, hg3⟩; have HG3 := hid hg3; clear hg3))
      exact ⟨⟨k + 1, by omega, by go_num, by rw [HS.out, ← cat_mk], by rw [HS.out]; exact HG3.out⟩, by simp [intOf]; omega⟩
    · obtain rfl : k = n := by omega
      clear hgw
      go_wp2_with fail
      go_ret
      refine ⟨by rw [HEND.out]; rfl, ?_⟩
      rw [← HEND.out]
      obtain ⟨fq, k1, k2, k3⟩ := HGW.out
      have hs1 := HB1.out.size
      exact ⟨fq, k1, ((Fr.of_below HB1.out).mono (fq := fp) (by simp)).trans k2 (fun b hb _ => hb), fun g hg => by
        rcases k3 g hg with h | h
        · exact .inl h
        · right; omega⟩
theorem each_tela (p : Nat) (fp : List Nat) (S : Lg) (s : ByteArray) (w : World) (hs : s.size ≤ 140737488355328) (h : Gk 123 p S fp w) :
    Calls Tryz.prog 119 #[.string s, .func (.func 120) #[] #[], .func (.func 121) #[.pointer (some ⟨p, 0, none⟩)] #[]] w fun e w' => e = .returned (.string ⟨(eachL tela S (takL 8 decI (sb s))).2.toArray⟩) ∧ Gw 123 p w fp (eachL tela S (takL 8 decI (sb s))).1 w' := by
  cases hb : (takL 8 decI (sb s)).2
  · refine (each_tela_no p S s w hs hb).mono fun e w' hh => ⟨hh.1, ?_⟩
    unfold eachL
    rw [if_neg (by rw [hb]; decide)]
    exact (Gw.start h).below hh.2
  · unfold eachL
    rw [if_pos hb]
    exact each_tela_yes p fp S s w hs h _ (Prod.ext rfl hb)
set_option maxHeartbeats 400000 in
theorem each_telt_no (p : Nat) (S : Lg) (s : ByteArray) (w : World) (hs : s.size ≤ 140737488355328) (hno : (takL 8 decI (sb s)).2 = false) :
    Calls Tryz.prog 119 #[.string s, .func (.func 120) #[] #[], .func (.func 122) #[.pointer (some ⟨p, 0, none⟩)] #[]] w (SE w (eachL telt S (takL 8 decI (sb s))).2) := by
  have HT := hid (taki_list s w hs)
  have e : (eachL telt S (takL 8 decI (sb s))).2 = [1] := by
    unfold eachL
    rw [if_neg (by rw [hno]; decide)]
  rw [e]
  obtain ⟨⟨l, b⟩, hr⟩ : ∃ r, takL 8 decI (sb s) = r := ⟨_, rfl⟩
  rw [hr] at hno HT
  obtain rfl : b = false := hno
  have HT2 : Hid (Calls Tryz.prog 120 #[.string s] w fun e w' => ∃ A c, e = .returned (.tuple #[.slice A l.length c, .bool false]) ∧ Below w.heap.size w w') := hid (HT.out.mono fun e w' ⟨A, c, h1, _, _, h2, _⟩ => ⟨A, c, h1, h2⟩)
  clear e HT hr hs
  go_enter Tryz.func119, Tryz.ntmps119
  go_wp2_with (go_at_call 120; refine HT2.out.mono ?_; rintro e w1 ⟨A, c, rfl, hb1⟩)
  go_ret
  exact ⟨rfl, hb1⟩
set_option maxHeartbeats 1000000 in
theorem each_telt_yes (p : Nat) (fp : List Nat) (S : Lg) (s : ByteArray) (w : World) (hs : s.size ≤ 140737488355328) (h : Gk 123 p S fp w) (l : List Nat) (hr : takL 8 decI (sb s) = (l, true)) :
    Calls Tryz.prog 119 #[.string s, .func (.func 120) #[] #[], .func (.func 122) #[.pointer (some ⟨p, 0, none⟩)] #[]] w fun e w' => e = .returned (.string ⟨(runL telt S l).2.toArray⟩) ∧ Gw 123 p w fp (runL telt S l).1 w' := by
  have HT := hid (taki_list s w hs)
  have hle := takL_le 8 decI (sb s)
  have hok := takL_all (n := 8) (s := sb s) decI_ok
  rw [hr] at HT hle hok
  simp only at hle hok
  obtain ⟨n, hn⟩ : ∃ n, n = l.length := ⟨_, rfl⟩
  have HT2 : Hid (Calls Tryz.prog 120 #[.string s] w fun e w' => ∃ A c, e = .returned (.tuple #[.slice A n c, .bool true]) ∧ n ≤ c ∧ Rd w' w'.heap.size A (rows Ic l) ∧ Below w.heap.size w w' ∧ NewA w A) := hid (by rw [hn]; exact HT.out)
  rw [← hn] at hle
  have HN := hid hn
  have HOK := hid (fun k (hk : k < l.length) => hok l[k] (List.getElem_mem hk))
  have HLT := hid h.lt
  have HH := hid h
  have HEND : Hid (runL telt S (l.take n) = runL telt S l) := hid (by rw [List.take_of_length_le (by omega)])
  have HST := hid (fun k (hk : k < l.length) => runL_take telt S l k hk)
  have HLE := hid (fun k => runL_len telt 33 telt_len S (l.take k))
  have HTL : Hid (∀ k, (l.take k).length ≤ k) := hid fun k => List.length_take_le _ _
  clear HT hr hs hok hn h
  go_enter Tryz.func119, Tryz.ntmps119
  go_wp2_with (go_at_call 120; refine HT2.out.mono ?_; rintro e w1 ⟨A, c, rfl, hnc, hrd1, hb1, hnew⟩)
  have HRD := hid hrd1
  have HB1 := hid hb1
  have HNEW := hid hnew
  have HG1 := hid (Gw.start (HH.out.below hb1))
  clear hrd1 hb1 hnew HT2
  go_loopw [9, 22] (fun sv i wr => ∃ k : Nat, k ≤ n ∧ i = .int .i64 k ∧ sv = .string ⟨(runL telt S (l.take k)).2.toArray⟩ ∧ Gw 123 p w1 fp (runL telt S (l.take k)).1 wr) (fun _ i _ => n - (intOf i).toNat)
  case atStart => exact ⟨0, by omega, rfl, rfl, HG1.out⟩
  case round =>
    obtain ⟨k, hk, rfl, rfl, hgw⟩ := hrel
    have HGW := hid hgw
    have hlen := HLE.out k
    have hlen2 := HTL.out k
    by_cases hlt : k < n
    · have hkl : k < l.length := by rw [← HN.out]; exact hlt
      have hrd := hgw.rdA HRD.out HNEW.out HLT.out
      have hne : rows Ic l ≠ [] := by
        intro e
        have := rows_len (C := Ic) Ic_len l
        rw [e] at this
        simp at this
        omega
      obtain ⟨ga, o, rfl, hga, hx⟩ := (show _ from hrd) hne
      clear hx
      have HS := hid (HST.out k hkl)
      have h2 := telt_len (runL telt S (l.take k)).1 l[k]
      obtain ⟨SK, hSK⟩ : ∃ SK, (runL telt S (l.take k)).1 = SK := ⟨_, rfl⟩
      rw [hSK] at h2 HGW HS
      obtain ⟨acc, hac⟩ : ∃ acc, (runL telt S (l.take k)).2 = acc := ⟨_, rfl⟩
      rw [hac] at hlen HS ⊢
      obtain ⟨bs, hbs⟩ : ∃ bs, (telt SK l[k]).2 = bs := ⟨_, rfl⟩
      obtain ⟨SN, hSN⟩ : ∃ SN, (telt SK l[k]).1 = SN := ⟨_, rfl⟩
      rw [hbs] at h2 HS
      rw [hSN] at HS
      have HBS := hid hbs
      have HSN := hid hSN
      have hq : ¬ (9223372036854775807 < acc.length + bs.length) := by omega
      clear hSK hac hbs hSN
      have hcl : wr.cell? ⟨ga, o + k, none⟩ = some (.int .u64 (l[k] : Int)) := by
        have := hrd.range Ic_len k hkl 0 _ rfl
        rw [Nat.mul_one] at this
        exact this
      have HX : Hid (∀ fq W, Gk 123 p SK fq W → Calls Tryz.prog 122 #[.pointer (some ⟨p, 0, none⟩), .int .u64 (l[k] : Int)] W fun e w' => e = .returned (.string ⟨bs.toArray⟩) ∧ Gw 123 p W fq SN w') := hid fun fq W hg => by
        rw [← HBS.out, ← HSN.out]
        exact telt_any p fq SK l[k] W hg
      generalize l[k] = X at *
      clear hrd hne hgw hlen hlen2 h2
      go_wp2_with ((go_at_call 122; refine (HGW.out.call (fun fq hk => HX.out fq wr hk)).mono ?_; rintro e w3 ⟨rfl, hg3⟩; have HG3 := hid hg3; clear hg3))
      exact ⟨⟨k + 1, by omega, by go_num, by rw [HS.out, ← cat_mk], by rw [HS.out]; exact HG3.out⟩, by simp [intOf]; omega⟩
    · obtain rfl : k = n := by omega
      clear hgw
      go_wp2_with fail
      go_ret
      refine ⟨by rw [HEND.out]; rfl, ?_⟩
      rw [← HEND.out]
      obtain ⟨fq, k1, k2, k3⟩ := HGW.out
      have hs1 := HB1.out.size
      exact ⟨fq, k1, ((Fr.of_below HB1.out).mono (fq := fp) (by simp)).trans k2 (fun b hb _ => hb), fun g hg => by
        rcases k3 g hg with h | h
        · exact .inl h
        · right; omega⟩
theorem each_telt (p : Nat) (fp : List Nat) (S : Lg) (s : ByteArray) (w : World) (hs : s.size ≤ 140737488355328) (h : Gk 123 p S fp w) :
    Calls Tryz.prog 119 #[.string s, .func (.func 120) #[] #[], .func (.func 122) #[.pointer (some ⟨p, 0, none⟩)] #[]] w fun e w' => e = .returned (.string ⟨(eachL telt S (takL 8 decI (sb s))).2.toArray⟩) ∧ Gw 123 p w fp (eachL telt S (takL 8 decI (sb s))).1 w' := by
  cases hb : (takL 8 decI (sb s)).2
  · refine (each_telt_no p S s w hs hb).mono fun e w' hh => ⟨hh.1, ?_⟩
    unfold eachL
    rw [if_neg (by rw [hb]; decide)]
    exact (Gw.start h).below hh.2
  · unfold eachL
    rw [if_pos hb]
    exact each_telt_yes p fp S s w hs h _ (Prod.ext rfl hb)
end Go.Proofs.YtdimlfjepliflaaGreatDoor
/-
  The walks of package ledger's Do and New.
-/
namespace Go.Proofs.YtdimlfjepliflaaGreatDoor
open Go.RowKit
set_option maxRecDepth 10000

section
variable (p : Nat) (fp : List Nat) (S : Lg) (s : ByteArray) (w : World) (hs : s.size ≤ 140737488355328) (h : Gk 123 p S fp w)
include hs h in
set_option maxHeartbeats 400000 in
theorem do_2 : Calls Tryz.prog 73 #[.pointer (some ⟨p, 0, none⟩), .int .i64 2, .string s] w fun e w' => e = .returned (.string ⟨(eachL mka S (takL 9 decA (sb s))).2.toArray⟩) ∧ Gw 123 p w fp (eachL mka S (takL 9 decA (sb s))).1 w' := by
  have HE := hid (each_mka p fp S s w hs h)
  generalize eachL mka S (takL 9 decA (sb s)) = r at *
  obtain ⟨SN, bs⟩ := r
  clear hs h
  go_enter Tryz.func73, Tryz.ntmps73
  go_wp2_with (go_at_call 113; refine HE.out.mono ?_; rintro e w1 ⟨rfl, hg1⟩)
  go_ret
  exact ⟨rfl, hg1⟩
include hs h in
set_option maxHeartbeats 400000 in
theorem do_3 : Calls Tryz.prog 73 #[.pointer (some ⟨p, 0, none⟩), .int .i64 3, .string s] w fun e w' => e = .returned (.string ⟨(eachL mkt S (takL 32 decT (sb s))).2.toArray⟩) ∧ Gw 123 p w fp (eachL mkt S (takL 32 decT (sb s))).1 w' := by
  have HE := hid (each_mkt p fp S s w hs h)
  generalize eachL mkt S (takL 32 decT (sb s)) = r at *
  obtain ⟨SN, bs⟩ := r
  clear hs h
  go_enter Tryz.func73, Tryz.ntmps73
  go_wp2_with (go_at_call 116; refine HE.out.mono ?_; rintro e w1 ⟨rfl, hg1⟩)
  go_ret
  exact ⟨rfl, hg1⟩
include hs h in
set_option maxHeartbeats 400000 in
theorem do_4 : Calls Tryz.prog 73 #[.pointer (some ⟨p, 0, none⟩), .int .i64 4, .string s] w fun e w' => e = .returned (.string ⟨(eachL tela S (takL 8 decI (sb s))).2.toArray⟩) ∧ Gw 123 p w fp (eachL tela S (takL 8 decI (sb s))).1 w' := by
  have HE := hid (each_tela p fp S s w hs h)
  generalize eachL tela S (takL 8 decI (sb s)) = r at *
  obtain ⟨SN, bs⟩ := r
  clear hs h
  go_enter Tryz.func73, Tryz.ntmps73
  go_wp2_with (go_at_call 119; refine HE.out.mono ?_; rintro e w1 ⟨rfl, hg1⟩)
  go_ret
  exact ⟨rfl, hg1⟩
include hs h in
set_option maxHeartbeats 400000 in
theorem do_5 : Calls Tryz.prog 73 #[.pointer (some ⟨p, 0, none⟩), .int .i64 5, .string s] w fun e w' => e = .returned (.string ⟨(eachL telt S (takL 8 decI (sb s))).2.toArray⟩) ∧ Gw 123 p w fp (eachL telt S (takL 8 decI (sb s))).1 w' := by
  have HE := hid (each_telt p fp S s w hs h)
  generalize eachL telt S (takL 8 decI (sb s)) = r at *
  obtain ⟨SN, bs⟩ := r
  clear hs h
  go_enter Tryz.func73, Tryz.ntmps73
  go_wp2_with (go_at_call 119; refine HE.out.mono ?_; rintro e w1 ⟨rfl, hg1⟩)
  go_ret
  exact ⟨rfl, hg1⟩
include h in
set_option maxHeartbeats 400000 in
theorem do_6 (op : Int) (h2 : ¬ op = 2) (h3 : ¬ op = 3) (h4 : ¬ op = 4) (h5 : ¬ op = 5) : Calls Tryz.prog 73 #[.pointer (some ⟨p, 0, none⟩), .int .i64 op, .string s] w fun e w' => e = .returned (.string ⟨[1].toArray⟩) ∧ Gw 123 p w fp S w' := by
  have HG := hid (Gw.start h)
  have e2 : (op == 2) = false := beq_eq_false_iff_ne.2 h2
  have e3 : (op == 3) = false := beq_eq_false_iff_ne.2 h3
  have e4 : (op == 4) = false := beq_eq_false_iff_ne.2 h4
  have e5 : (op == 5) = false := beq_eq_false_iff_ne.2 h5
  clear h h2 h3 h4 h5
  go_enter Tryz.func73, Tryz.ntmps73
  go_wp2_with fail
  go_ret
  exact ⟨rfl, HG.out⟩
include hs h in
theorem do_any (op : Int) : Calls Tryz.prog 73 #[.pointer (some ⟨p, 0, none⟩), .int .i64 op, .string s] w fun e w' => e = .returned (.string ⟨(S.doo op (sb s)).2.toArray⟩) ∧ Gw 123 p w fp (S.doo op (sb s)).1 w' := by
  unfold Lg.doo
  by_cases h2 : op = 2
  · rw [if_pos h2]; subst h2; exact do_2 p fp S s w hs h
  rw [if_neg h2]
  by_cases h3 : op = 3
  · rw [if_pos h3]; subst h3; exact do_3 p fp S s w hs h
  rw [if_neg h3]
  by_cases h4 : op = 4
  · rw [if_pos h4]; subst h4; exact do_4 p fp S s w hs h
  rw [if_neg h4]
  by_cases h5 : op = 5
  · rw [if_pos h5]; subst h5; exact do_5 p fp S s w hs h
  rw [if_neg h5]
  exact do_6 p fp S s w h op h2 h3 h4 h5
end
/-- a new ledger, all of it in new memory -/
def NG (X : Nat) (w : World) (S : Lg) (v : Nat → Value) (e : Ending) (w' : World) : Prop := ∃ p fp, e = .returned (v p) ∧ Gk X p S fp w' ∧ (∀ b ∈ fp, w.heap.size ≤ b) ∧ Below w.heap.size w w'
theorem nil_has {w : World} {X p : Nat} (hr : Row w p X [.slice none 0 0, .slice none 0 0]) (ty : X ≠ 88 ∧ X ≠ 90) : HasG w X p (.slice none 0 0) (.slice none 0 0) Lg.nil :=
  ⟨hr, World.ownsRow_nil _ _ _ _, World.ownsRow_nil _ _ _ _, Lg.nil_wf, ty⟩
set_option maxHeartbeats 400000 in
theorem new_any (w : World) : Calls Tryz.prog 34 #[] w (NG 123 w Lg.nil (fun p => .pointer (some ⟨p, 0, none⟩))) := by
  go_enter Tryz.func34, Tryz.ntmps34
  go_wp2_with fail
  go_ret
  refine ⟨w.heap.size, _, rfl, ⟨_, _, rfl, nil_has (Row.new w _ #[.slice none 0 0, .slice none 0 0]) (by decide)⟩, ?_, (Below.refl _ _).alloc (Nat.le_refl _) _⟩
  intro b hb
  simp [fpG, Value.ownBlock] at hb
  omega
end Go.Proofs.YtdimlfjepliflaaGreatDoor
/-
  The walk of LedgerAgain.
-/
namespace Go.Proofs.YtdimlfjepliflaaGreatDoor
open Go.RowKit
set_option maxRecDepth 10000

section
variable {p : Nat} {fp : List Nat} {S : Lg} {w : World} (h : Gk 123 p S fp w)
include h
theorem pack_gk : Calls Tryz.prog 51 #[.pointer (some ⟨p, 0, none⟩)] w (SE w S.pack) := by
  obtain ⟨va, vt, rfl, h⟩ := h
  exact pack_any p va vt S w h
end
/-- int(uint(k) % uint(n)) -/
def modS (c : Int) (n : Nat) : Nat := (c % 18446744073709551616 % (n : Int)).toNat
theorem modS_lt (c : Int) (n : Nat) (h : 0 < n) : modS c n < n := by
  unfold modS
  have h1 : 0 ≤ c % 18446744073709551616 % (n : Int) := Int.emod_nonneg _ (by omega)
  have h2 : c % 18446744073709551616 % (n : Int) < (n : Int) := Int.emod_lt_of_pos _ (by omega)
  omega
theorem u64_small (n : Nat) (h : n ≤ 100) : IntKind.u64.wrap (n : Int) = (n : Int) := by
  simp [IntKind.wrap, IntKind.bits, IntKind.signed]
  omega
theorem mod_code (c : Int) (n : Nat) (h : 0 < n) (hb : n ≤ 100) : wrap64 ((IntKind.u64.wrap c).tmod (n : Int)) = (modS c n : Int) := by
  have h0 : IntKind.u64.wrap c = c % 18446744073709551616 := by simp [IntKind.wrap, IntKind.bits, IntKind.signed]
  have h2 : 0 ≤ c % 18446744073709551616 := by omega
  rw [h0, Int.tmod_eq_emod_of_nonneg h2]
  have h3 : 0 ≤ c % 18446744073709551616 % (n : Int) := Int.emod_nonneg _ (by omega)
  have h4 : c % 18446744073709551616 % (n : Int) < (n : Int) := Int.emod_lt_of_pos _ (by omega)
  unfold modS
  rw [Int.toNat_of_nonneg h3]
  unfold wrap64
  omega
/-- the law's own ledger, and a list apart from it -/
def Ak (w0 : World) (X p : Nat) (S : Lg) (A : Option Addr) (xs : List Value) (w : World) : Prop :=
  ∃ fp, Gk X p S fp w ∧ (∀ b ∈ fp, w0.heap.size ≤ b) ∧ Below w0.heap.size w0 w ∧ Rd w w.heap.size A xs ∧ (xs ≠ [] → ∀ a, A = some a → a.block ∉ fp)
section
variable {w0 w w' : World} {X p : Nat} {S S' : Lg} {A : Option Addr} {xs : List Value}
theorem Sk.list (h : Sk w0 X p S w) (hr : Rd w' w'.heap.size A xs) (hb : Below w.heap.size w w') (hn : NewA w A) : Ak w0 X p S A xs w' := by
  obtain ⟨fp, h1, h2, h3⟩ := h
  refine ⟨fp, h1.below hb, h2, h3.trans (hb.mono h3.size), hr, fun _ a ha hm => ?_⟩
  have := h1.lt _ hm
  have := hn a ha
  omega
theorem Ak.fst (h : Ak w0 X p S A xs w) : Sk w0 X p S w := by
  obtain ⟨fp, h1, h2, h3, _⟩ := h
  exact ⟨fp, h1, h2, h3⟩
theorem Ak.frame (h : Ak w0 X p S A xs w) : Below w0.heap.size w0 w := h.fst.frame
theorem Ak.rd (h : Ak w0 X p S A xs w) : Rd w w.heap.size A xs := by
  obtain ⟨fp, h1, h2, h3, h4, _⟩ := h
  exact h4
theorem Ak.below (h : Ak w0 X p S A xs w) (hb : Below w.heap.size w w') : Ak w0 X p S A xs w' := by
  obtain ⟨fp, h1, h2, h3, h4, h5⟩ := h
  exact ⟨fp, h1.below hb, h2, h3.trans (hb.mono h3.size), (h4.below hb (Nat.le_refl _)).more hb.size, h5⟩
theorem Ak.call {P : Program} {f : FuncId} {args : Array Value} {v : Ending} (h : Ak w0 X p S A xs w) (H : ∀ fp, Gk X p S fp w → Calls P f args w fun e w' => e = v ∧ Gw X p w fp S' w') : Calls P f args w fun e w' => e = v ∧ Ak w0 X p S' A xs w' := by
  obtain ⟨fp, h1, h2, h3, h4, h5⟩ := h
  refine (H fp h1).mono fun e w' hh => ⟨hh.1, ?_⟩
  obtain ⟨fq, k1, k2, k3⟩ := hh.2
  refine ⟨fq, k1, fun b hb => ?_, h3.trans (k2.below h2 h3.size), fun hne => ?_, fun hne a ha hm => ?_⟩
  · rcases k3 b hb with h | h
    · exact h2 b h
    · exact Nat.le_trans h3.size h
  · obtain ⟨g, o, rfl, hg, hc⟩ := (show _ from h4) hne
    exact (Fr.rd' k2 (fun _ => ⟨g, o, rfl, hg, hc⟩) (h5 hne _ rfl)).more k2.size hne
  · rcases k3 _ hm with h | h
    · exact h5 hne a ha h
    · obtain ⟨g, o, e, hg, _⟩ := h4 hne
      rw [ha] at e
      cases e
      simp only at h
      omega
theorem Sk.mk' {fp : List Nat} (hb : Below w0.heap.size w0 w) (hk : Gk X p S fp w') (hf : ∀ b ∈ fp, w.heap.size ≤ b) (hx : Below w.heap.size w w') : Sk w0 X p S w' := ⟨fp, hk, fun b h => Nat.le_trans hb.size (hf b h), hb.trans (hx.mono hb.size)⟩
theorem Ak.pack (h : Ak w0 123 p S A xs w) : Calls Tryz.prog 51 #[.pointer (some ⟨p, 0, none⟩)] w (SE w S.pack) := by
  obtain ⟨fp, h1, _⟩ := h
  exact pack_gk h1
theorem Sk.pack (h : Sk w0 123 p S w) : Calls Tryz.prog 51 #[.pointer (some ⟨p, 0, none⟩)] w (SE w S.pack) := by
  obtain ⟨fp, h1, _⟩ := h
  exact pack_gk h1
end
end Go.Proofs.YtdimlfjepliflaaGreatDoor
/-
  The walks of the document's Account, Transfer and Open.
-/
namespace Go.Proofs.YtdimlfjepliflaaGreatDoor
open Go.RowKit
set_option maxRecDepth 10000

theorem idxa_no {S : Lg} {id : Nat} (h : ¬ S.fa id < S.A.length) : idxa S.A id = -1 := by unfold idxa; rw [if_neg (by exact h)]
theorem idxa_yes {S : Lg} {id : Nat} (h : S.fa id < S.A.length) : idxa S.A id = (S.fa id : Int) := by unfold idxa; rw [if_pos (by exact h)]; rfl
set_option maxHeartbeats 1000000 in
theorem ra_any (p : Nat) (va vt : Value) (S : Lg) (id : Nat) (w : World) (h : HasG w 57 p va vt S) :
    Calls Tryz.prog 105 #[.pointer (some ⟨p, 0, none⟩), .int .u64 (id : Int)] w fun e w' => e = .returned (.int .i64 (idxa S.A id)) ∧ w = w' := by
  obtain ⟨A, c, e, hnc, hrd⟩ := h.va_shape
  have hc0 := h.c0
  rw [e] at hc0
  have hbig := h.wf.la
  have HN : Hid (∀ n, n = S.A.length → n = S.A.length) := hid fun _ h => h
  obtain ⟨n, hn⟩ : ∃ n, S.A.length = n := ⟨_, rfl⟩
  rw [hn] at hc0 hnc hbig
  by_cases h0 : n = 0
  · subst h0
    rw [idxa_no (by omega)]
    clear h e hrd hn HN
    go_enter Tryz.func105, Tryz.ntmps105
    go_wp2_with fail
    go_loop [5] (fun i => i = .int .i64 0) (fun _ => 0)
    case atStart => rfl
    case round =>
      obtain rfl := hrel
      go_wp2_with fail
      go_ret
      exact ⟨rfl, rfl⟩
  obtain ⟨g, o, rfl⟩ := shape_of hrd Ac.len (by decide) (by omega)
  have HR := hid hrd
  have HNL := hid hn
  have HF : Hid (∀ k, k < S.A.length → at_ Ac.id id S.A = k → idxa S.A id = (k : Int)) := hid fun k hk e => by
    unfold idxa
    rw [e, if_pos hk]
  have HNF : Hid (at_ Ac.id id S.A = S.A.length → idxa S.A id = -1) := hid fun e => by
    unfold idxa
    rw [if_neg (by omega)]
  generalize idxa S.A id = r at *
  clear h e hrd hn HN
  go_enter Tryz.func105, Tryz.ntmps105
  go_wp2_with fail
  go_loop [5] (fun i => ∃ k : Nat, k ≤ n ∧ i = .int .i64 (k : Int) ∧ Hid (k ≤ at_ Ac.id id S.A)) (fun i => n - (intOf i).toNat)
  case atStart => exact ⟨0, by omega, rfl, hid (Nat.zero_le _)⟩
  case round =>
    obtain ⟨k, hk, rfl, HK⟩ := hrel
    by_cases hlt : k < n
    · have hkl : k < S.A.length := by rw [HNL.out]; exact hlt
      have hcl : w.cell? ⟨g, o + k * 4, none⟩ = some (.int .u64 (Ac.id (S.A[k]'hkl) : Int)) := range_of HR.out Ac.len hkl 0 _ rfl
      have hi0 : (k : Int) < (n : Int) := by omega
      by_cases he : Ac.id (S.A[k]'hkl) = id
      · have HAT := hid (HF.out k hkl (at_this Ac.id id S.A k HK.out hkl he))
        have ht := eq_nat he
        generalize Ac.id (S.A[k]'hkl) = kid at *
        clear he
        go_wp2_with fail
        go_ret
        exact ⟨by rw [HAT.out]; rfl, rfl⟩
      · have HAT : Hid (k + 1 ≤ at_ Ac.id id S.A) := hid (by
          rcases Nat.lt_or_ge k (at_ Ac.id id S.A) with h | h
          · omega
          · have e : at_ Ac.id id S.A = k := Nat.le_antisymm h HK.out
            have h2 := at_here Ac.id id S.A (by rw [e]; exact hkl)
            simp only [e] at h2
            exact absurd h2 he)
        have ht := ne_nat he
        generalize Ac.id (S.A[k]'hkl) = kid at *
        clear he
        go_wp2_with fail
        exact ⟨⟨k + 1, by omega, by go_num, hid HAT.out⟩, by simp [intOf]; omega⟩
    · obtain rfl : k = n := by omega
      have HAT := hid (HNF.out (by have := HK.out; have := at_le Ac.id id S.A; have := HNL.out; omega))
      go_wp2_with fail
      go_ret
      exact ⟨by rw [HAT.out]; rfl, rfl⟩
theorem idxt_no {S : Lg} {id : Nat} (h : ¬ S.ft id < S.T.length) : idxt S.T id = -1 := by unfold idxt; rw [if_neg (by exact h)]
theorem idxt_yes {S : Lg} {id : Nat} (h : S.ft id < S.T.length) : idxt S.T id = (S.ft id : Int) := by unfold idxt; rw [if_pos (by exact h)]; rfl
set_option maxHeartbeats 1000000 in
theorem rt_any (p : Nat) (va vt : Value) (S : Lg) (id : Nat) (w : World) (h : HasG w 57 p va vt S) :
    Calls Tryz.prog 106 #[.pointer (some ⟨p, 0, none⟩), .int .u64 (id : Int)] w fun e w' => e = .returned (.int .i64 (idxt S.T id)) ∧ w = w' := by
  obtain ⟨A, c, e, hnc, hrd⟩ := h.vt_shape
  have hc0 := h.c1
  rw [e] at hc0
  have hbig := h.wf.lt
  have HN : Hid (∀ n, n = S.T.length → n = S.T.length) := hid fun _ h => h
  obtain ⟨n, hn⟩ : ∃ n, S.T.length = n := ⟨_, rfl⟩
  rw [hn] at hc0 hnc hbig
  by_cases h0 : n = 0
  · subst h0
    rw [idxt_no (by omega)]
    clear h e hrd hn HN
    go_enter Tryz.func106, Tryz.ntmps106
    go_wp2_with fail
    go_loop [5] (fun i => i = .int .i64 0) (fun _ => 0)
    case atStart => rfl
    case round =>
      obtain rfl := hrel
      go_wp2_with fail
      go_ret
      exact ⟨rfl, rfl⟩
  obtain ⟨g, o, rfl⟩ := shape_of hrd Tr.len (by decide) (by omega)
  have HR := hid hrd
  have HNL := hid hn
  have HF : Hid (∀ k, k < S.T.length → at_ Tr.a id S.T = k → idxt S.T id = (k : Int)) := hid fun k hk e => by
    unfold idxt
    rw [e, if_pos hk]
  have HNF : Hid (at_ Tr.a id S.T = S.T.length → idxt S.T id = -1) := hid fun e => by
    unfold idxt
    rw [if_neg (by omega)]
  generalize idxt S.T id = r at *
  clear h e hrd hn HN
  go_enter Tryz.func106, Tryz.ntmps106
  go_wp2_with fail
  go_loop [5] (fun i => ∃ k : Nat, k ≤ n ∧ i = .int .i64 (k : Int) ∧ Hid (k ≤ at_ Tr.a id S.T)) (fun i => n - (intOf i).toNat)
  case atStart => exact ⟨0, by omega, rfl, hid (Nat.zero_le _)⟩
  case round =>
    obtain ⟨k, hk, rfl, HK⟩ := hrel
    by_cases hlt : k < n
    · have hkl : k < S.T.length := by rw [HNL.out]; exact hlt
      have hcl : w.cell? ⟨g, o + k * 4, none⟩ = some (.int .u64 (Tr.a (S.T[k]'hkl) : Int)) := range_of HR.out Tr.len hkl 0 _ rfl
      have hi0 : (k : Int) < (n : Int) := by omega
      by_cases he : Tr.a (S.T[k]'hkl) = id
      · have HAT := hid (HF.out k hkl (at_this Tr.a id S.T k HK.out hkl he))
        have ht := eq_nat he
        generalize Tr.a (S.T[k]'hkl) = kid at *
        clear he
        go_wp2_with fail
        go_ret
        exact ⟨by rw [HAT.out]; rfl, rfl⟩
      · have HAT : Hid (k + 1 ≤ at_ Tr.a id S.T) := hid (by
          rcases Nat.lt_or_ge k (at_ Tr.a id S.T) with h | h
          · omega
          · have e : at_ Tr.a id S.T = k := Nat.le_antisymm h HK.out
            have h2 := at_here Tr.a id S.T (by rw [e]; exact hkl)
            simp only [e] at h2
            exact absurd h2 he)
        have ht := ne_nat he
        generalize Tr.a (S.T[k]'hkl) = kid at *
        clear he
        go_wp2_with fail
        exact ⟨⟨k + 1, by omega, by go_num, hid HAT.out⟩, by simp [intOf]; omega⟩
    · obtain rfl : k = n := by omega
      have HAT := hid (HNF.out (by have := HK.out; have := at_le Tr.a id S.T; have := HNL.out; omega))
      go_wp2_with fail
      go_ret
      exact ⟨by rw [HAT.out]; rfl, rfl⟩
section
variable (p : Nat) (va vt : Value) (S : Lg) (id : Nat) (fl : Int) (w : World) (h : HasG w 57 p va vt S)
end
end Go.Proofs.YtdimlfjepliflaaGreatDoor
/-
  The walks of the document's Find and Do.
-/
namespace Go.Proofs.YtdimlfjepliflaaGreatDoor
open Go.RowKit
set_option maxRecDepth 10000

theorem rt_one {w : World} {B g o : Nat} {l : List Tr} (h : Rd w B (some ⟨g, o, none⟩) (rows Tr.cells l)) (k : Nat) (hk : k < l.length) : Rd w B (some ⟨g, o + k * 4, none⟩) (rows Tr.cells [l[k]]) := by
  rw [rows1]
  intro _
  obtain ⟨g', o', e, hg, _⟩ := h (by intro e; have := rows_len (C := Tr.cells) Tr.len l; rw [e] at this; simp at this; omega)
  cases e
  exact ⟨g, o + k * 4, rfl, hg, fun j u hu => range_of h Tr.len hk j u hu⟩
section
variable (p : Nat) (va vt : Value) (S : Lg) (id : Nat) (w : World) (h : HasG w 57 p va vt S)
include h
set_option maxHeartbeats 400000 in
theorem rfind_4n (hno : ¬ S.fa id < S.A.length) : Calls Tryz.prog 68 #[.pointer (some ⟨p, 0, none⟩), .int .i64 4, .int .u64 (id : Int)] w (SE w [0]) := by
  have HA := hid (ra_any p va vt S id w h)
  rw [idxa_no hno] at HA
  have HB : Hid (∀ W, Calls Tryz.prog 62 #[.int .i64 0] W (SE W [0])) := hid fun W => rbyte_any 0 W (by decide)
  clear h hno
  go_enter Tryz.func68, Tryz.ntmps68
  go_wp2_with (first
    | (go_at_call 105; refine HA.out.mono ?_; rintro e w1 ⟨rfl, rfl⟩)
    | (go_at_call 62; refine (HB.out _).mono ?_; rintro e w2 ⟨rfl, hb⟩))
  go_ret
  exact ⟨rfl, hb⟩
set_option maxHeartbeats 1000000 in
theorem rfind_4y (hk : S.fa id < S.A.length) : Calls Tryz.prog 68 #[.pointer (some ⟨p, 0, none⟩), .int .i64 4, .int .u64 (id : Int)] w (SE w (1 :: acB (S.ac (S.fa id)))) := by
  rw [S.ac_get _ hk]
  have HA := hid (ra_any p va vt S id w h)
  rw [idxa_yes hk] at HA
  have HB : Hid (∀ W, Calls Tryz.prog 62 #[.int .i64 1] W (SE W [1])) := hid fun W => rbyte_any 1 W (by decide)
  obtain ⟨g, c, ev, -, hg⟩ := own_some h.accs (by omega : 0 < S.A.length)
  have hc0 := h.c0
  rw [ev] at hc0
  have hrg : w.rangeAt g (S.fa id * 4) (Ac.cells (S.A[S.fa id]'hk)) := fun j v hv => by
    have hj : j < 4 := by
      have := (List.getElem?_eq_some_iff.1 hv).1
      rw [Ac.len] at this
      exact this
    rw [h.cellA hg _ j hk hj]
    exact hv
  have HP := hid (fun W => rpw_any (S.A[S.fa id]'hk) (h.wf.oa _ (List.getElem_mem hk)).1 W)
  have hl := acB_le (S.A[S.fa id]'hk)
  unfold acB at hl ⊢
  generalize wholeB (S.A[S.fa id]'hk) = r at *
  obtain ⟨bs, er⟩ := r
  have HC4 : Hid ((Ac.cells (S.A[S.fa id]'hk)).length = 4) := hid (Ac.len _)
  have hkn : (S.fa id : Int) < (S.A.length : Int) := by omega
  have hk0 : (0 : Int) ≤ (S.fa id : Int) := by omega
  generalize Ac.cells (S.A[S.fa id]'hk) = X at *
  generalize S.fa id = k at *
  generalize S.A.length = n at *
  have HRG := hid hrg
  have HZ := hid acSize
  have hq : ¬ (9223372036854775807 < 1 + bs.length) := by simp only at hl; omega
  have hq2 : ¬ (9223372036854775807 < bs.length + 1) := by simp only at hl; omega
  show Calls _ _ _ _ (SE w (1 :: bs))
  clear h hk ev hg hrg hl
  go_enter Tryz.func68, Tryz.ntmps68
  go_wp2_with (first
    | (go_at_call 105; refine HA.out.mono ?_; rintro e w1 ⟨rfl, rfl⟩)
    | (refine wpList_load_mid rfl 88 (.tmp 27) rfl g (k * 4) rfl X _ HRG.out Tryz.underlying88 rfl (by rw [HC4.out]; exact HZ.out) ?_)
    | (go_at_call 93; refine (HP.out _).mono ?_; rintro e w1 ⟨rfl, hb1⟩)
    | (go_at_call 62; refine (HB.out _).mono ?_; rintro e w2 ⟨rfl, hb2⟩))
  go_ret
  exact ⟨by rw [← one_cat]; rfl, hb1.trans (hb2.mono hb1.size)⟩
set_option maxHeartbeats 400000 in
theorem rfind_5n (hno : ¬ S.ft id < S.T.length) : Calls Tryz.prog 68 #[.pointer (some ⟨p, 0, none⟩), .int .i64 5, .int .u64 (id : Int)] w (SE w [0]) := by
  have HA := hid (rt_any p va vt S id w h)
  rw [idxt_no hno] at HA
  have HB : Hid (∀ W, Calls Tryz.prog 62 #[.int .i64 0] W (SE W [0])) := hid fun W => rbyte_any 0 W (by decide)
  clear h hno
  go_enter Tryz.func68, Tryz.ntmps68
  go_wp2_with (first
    | (go_at_call 106; refine HA.out.mono ?_; rintro e w1 ⟨rfl, rfl⟩)
    | (go_at_call 62; refine (HB.out _).mono ?_; rintro e w2 ⟨rfl, hb⟩))
  go_ret
  exact ⟨rfl, hb⟩
set_option maxHeartbeats 1000000 in
theorem rfind_5y (hk : S.ft id < S.T.length) : Calls Tryz.prog 68 #[.pointer (some ⟨p, 0, none⟩), .int .i64 5, .int .u64 (id : Int)] w (SE w (1 :: trL (S.tr (S.ft id)))) := by
  rw [S.tr_get _ hk]
  have HA := hid (rt_any p va vt S id w h)
  rw [idxt_yes hk] at HA
  have HB : Hid (∀ W, Calls Tryz.prog 62 #[.int .i64 1] W (SE W [1])) := hid fun W => rbyte_any 1 W (by decide)
  obtain ⟨g, c, ev, hnc, hg⟩ := own_some h.trs (by omega : 0 < S.T.length)
  have hc0 := h.c1
  rw [ev] at hc0
  obtain ⟨A', c', e', -, hrd⟩ := h.vt_shape
  rw [ev] at e'
  simp only [Value.slice.injEq] at e'
  obtain ⟨rfl, -, rfl⟩ := e'
  have hro := h.wf.ot _ (List.getElem_mem hk)
  have HRT := hid (fun k (hk : k < S.T.length) => rt_one hrd k hk)
  have HP := hid (rputt_list (some ⟨g, S.ft id * 4, none⟩) [S.T[S.ft id]'hk] 1 (c - S.ft id) w.heap.size w (by have := HRT.out _ hk; rw [Nat.zero_add] at this; exact this) rfl (by omega) (Nat.le_refl _) (by intro y hy; rw [List.mem_singleton.1 hy]; exact hro))
  rw [(one_t _ hro).1] at HP
  have hl := trL_le (S.T[S.ft id]'hk)
  generalize trL (S.T[S.ft id]'hk) = bs at *
  have hkn : (S.ft id : Int) < (S.T.length : Int) := by omega
  have hk1 : (S.ft id : Int) + 1 ≤ (c : Int) := by omega
  have hk2 : ¬ c = S.ft id := by omega
  have hk0 : (0 : Int) ≤ (S.ft id : Int) := by omega
  have hn16 := h.wf.lt
  have hq : ¬ (9223372036854775807 < 1 + bs.length) := by omega
  have hq2 : ¬ (9223372036854775807 < bs.length + 1) := by omega
  clear h ev hg hrd hl hro HRT
  generalize S.ft id = k at *
  generalize S.T.length = n at *
  go_enter Tryz.func68, Tryz.ntmps68
  go_wp2_with (first
    | (go_at_call 106; refine HA.out.mono ?_; rintro e w1 ⟨rfl, rfl⟩)
    | (go_at_call 94; refine HP.out.mono ?_; rintro e w1 ⟨rfl, hb1⟩)
    | (go_at_call 62; refine (HB.out _).mono ?_; rintro e w2 ⟨rfl, hb2⟩))
  go_ret
  exact ⟨by rw [← one_cat]; rfl, hb1.trans (hb2.mono hb1.size)⟩
end
end Go.Proofs.YtdimlfjepliflaaGreatDoor
