/-
  The walks of package ledger's each, for each of its four uses.
-/
import Derived.Test.YtbofabmgfkploaaTell
import Derived.Test.YtbofabmgfkploaaMkt
namespace Go.Proofs.Ytbofabmgfkploaa
open Go.RowKit
set_option maxRecDepth 10000

theorem runL_len {α : Type} (f : Lg → α → Lg × List UInt8) (m : Nat) (hf : ∀ S x, (f S x).2.length ≤ m) (S : Lg) (l : List α) : (runL f S l).2.length ≤ 1 + l.length * m := by
  have key : ∀ (l : List α) (r : Lg × List UInt8), (l.foldl (fun r x => ((f r.1 x).1, r.2 ++ (f r.1 x).2)) r).2.length ≤ r.2.length + l.length * m := by
    intro l
    induction l with
    | nil => intro r; simp
    | cons x t ih =>
      intro r
      have h1 := ih ((f r.1 x).1, r.2 ++ (f r.1 x).2)
      have h2 := hf r.1 x
      simp only [List.foldl_cons, List.length_cons, Nat.add_mul, Nat.one_mul] at h1 ⊢
      rw [List.length_append] at h1
      omega
  exact key l (S, [0])
theorem mka_len (S : Lg) (x : Ac) : (mka S x).2.length ≤ 33 := by simp [mka]
theorem mkt_len (S : Lg) (x : Tr) : (mkt S x).2.length ≤ 33 := by simp [mkt]
theorem tela_len (S : Lg) (x : Nat) : (tela S x).2.length ≤ 33 := by
  have := acB_le (S.ac (S.fa x))
  simp only [tela]
  split <;> simp <;> omega
theorem telt_len (S : Lg) (x : Nat) : (telt S x).2.length ≤ 33 := by
  have := trL_le (S.tr (S.ft x))
  simp only [telt]
  split <;> simp <;> omega
theorem Gw.rdA {X p : Nat} {w w1 wr : World} {fp : List Nat} {S : Lg} {A : Option Addr} {xs : List Value} (h : Gw X p w1 fp S wr) (hr : Rd w1 w1.heap.size A xs) (hn : NewA w A) (hf : ∀ b ∈ fp, b < w.heap.size) : Rd wr w1.heap.size A xs := fun hne => by
  obtain ⟨g, o, rfl, hg, hc⟩ := (show _ from hr) hne
  have hg2 : w.heap.size ≤ g := hn _ rfl
  exact h.rd (B := w1.heap.size) (fun _ => ⟨g, o, rfl, hg, hc⟩) (fun hm => by have := hf g hm; omega) (Nat.le_refl _) hne

set_option maxHeartbeats 400000 in
theorem each_mka_no (p : Nat) (S : Lg) (s : ByteArray) (w : World) (hs : s.size ≤ 140737488355328) (hno : (takL 9 decA (sb s)).2 = false) :
    Calls Try.prog 26 #[.string s, .func (.func 27) #[] #[], .func (.func 28) #[.pointer (some ⟨p, 0, none⟩)] #[]] w (SE w (eachL mka S (takL 9 decA (sb s))).2) := by
  have HT := hid (taka_list s w hs)
  have e : (eachL mka S (takL 9 decA (sb s))).2 = [1] := by
    unfold eachL
    rw [if_neg (by rw [hno]; decide)]
  rw [e]
  obtain ⟨⟨l, b⟩, hr⟩ : ∃ r, takL 9 decA (sb s) = r := ⟨_, rfl⟩
  rw [hr] at hno HT
  obtain rfl : b = false := hno
  have HT2 : Hid (Calls Try.prog 27 #[.string s] w fun e w' => ∃ A c, e = .returned (.tuple #[.slice A l.length c, .bool false]) ∧ Below w.heap.size w w') := hid (HT.out.mono fun e w' ⟨A, c, h1, _, _, h2, _⟩ => ⟨A, c, h1, h2⟩)
  clear e HT hr hs
  go_enter Try.func26, Try.ntmps26
  go_wp2_with (go_at_call 27; refine HT2.out.mono ?_; rintro e w1 ⟨A, c, rfl, hb1⟩)
  go_ret
  exact ⟨rfl, hb1⟩
set_option maxHeartbeats 1000000 in
theorem each_mka_yes (p : Nat) (fp : List Nat) (S : Lg) (s : ByteArray) (w : World) (hs : s.size ≤ 140737488355328) (h : Gk 63 p S fp w) (l : List Ac) (hr : takL 9 decA (sb s) = (l, true)) :
    Calls Try.prog 26 #[.string s, .func (.func 27) #[] #[], .func (.func 28) #[.pointer (some ⟨p, 0, none⟩)] #[]] w fun e w' => e = .returned (.string ⟨(runL mka S l).2.toArray⟩) ∧ Gw 63 p w fp (runL mka S l).1 w' := by
  have HT := hid (taka_list s w hs)
  have hle := takL_le 9 decA (sb s)
  have hok := takL_all (n := 9) (s := sb s) decA_flat
  rw [hr] at HT hle hok
  simp only at hle hok
  obtain ⟨n, hn⟩ : ∃ n, n = l.length := ⟨_, rfl⟩
  have HT2 : Hid (Calls Try.prog 27 #[.string s] w fun e w' => ∃ A c, e = .returned (.tuple #[.slice A n c, .bool true]) ∧ n ≤ c ∧ Rd w' w'.heap.size A (rows Ac.cells l) ∧ Below w.heap.size w w' ∧ NewA w A) := hid (by rw [hn]; exact HT.out)
  rw [← hn] at hle
  have HN := hid hn
  have HOK := hid (fun k (hk : k < l.length) => hok l[k] (List.getElem_mem hk))
  have HLT := hid h.lt
  have HH := hid h
  have HZ := hid acSize
  have HEND : Hid (runL mka S (l.take n) = runL mka S l) := hid (by rw [List.take_of_length_le (by omega)])
  have HST := hid (fun k (hk : k < l.length) => runL_take mka S l k hk)
  have HLE := hid (fun k => runL_len mka 33 mka_len S (l.take k))
  have HTL : Hid (∀ k, (l.take k).length ≤ k) := hid fun k => List.length_take_le _ _
  clear HT hr hs hok hn h
  go_enter Try.func26, Try.ntmps26
  go_wp2_with (go_at_call 27; refine HT2.out.mono ?_; rintro e w1 ⟨A, c, rfl, hnc, hrd1, hb1, hnew⟩)
  have HRD := hid hrd1
  have HB1 := hid hb1
  have HNEW := hid hnew
  have HG1 := hid (Gw.start (HH.out.below hb1))
  clear hrd1 hb1 hnew HT2
  go_loopw [9, 22] (fun sv i wr => ∃ k : Nat, k ≤ n ∧ i = .int .i64 k ∧ sv = .string ⟨(runL mka S (l.take k)).2.toArray⟩ ∧ Gw 63 p w1 fp (runL mka S (l.take k)).1 wr) (fun _ i _ => n - (intOf i).toNat)
  case atStart => exact ⟨0, by omega, rfl, rfl, HG1.out⟩
  case round =>
    obtain ⟨k, hk, rfl, rfl, hgw⟩ := hrel
    have HGW := hid hgw
    have hlen := HLE.out k
    have hlen2 := HTL.out k
    by_cases hlt : k < n
    · have hkl : k < l.length := by rw [← HN.out]; exact hlt
      have hrd := hgw.rdA HRD.out HNEW.out HLT.out
      have hne : rows Ac.cells l ≠ [] := by
        intro e
        have := rows_len (C := Ac.cells) Ac.len l
        rw [e] at this
        simp at this
        omega
      obtain ⟨ga, o, rfl, hga, hx⟩ := (show _ from hrd) hne
      clear hx
      have HS := hid (HST.out k hkl)
      have h2 := mka_len (runL mka S (l.take k)).1 l[k]
      obtain ⟨SK, hSK⟩ : ∃ SK, (runL mka S (l.take k)).1 = SK := ⟨_, rfl⟩
      rw [hSK] at h2 HGW HS
      obtain ⟨acc, hac⟩ : ∃ acc, (runL mka S (l.take k)).2 = acc := ⟨_, rfl⟩
      rw [hac] at hlen HS ⊢
      obtain ⟨bs, hbs⟩ : ∃ bs, (mka SK l[k]).2 = bs := ⟨_, rfl⟩
      obtain ⟨SN, hSN⟩ : ∃ SN, (mka SK l[k]).1 = SN := ⟨_, rfl⟩
      rw [hbs] at h2 HS
      rw [hSN] at HS
      have HBS := hid hbs
      have HSN := hid hSN
      have hq : ¬ (9223372036854775807 < acc.length + bs.length) := by omega
      clear hSK hac hbs hSN
      have HC4 : Hid ((Ac.cells l[k]).length = 4) := hid (Ac.len _)
      have HC1 : Hid ((Ac.cells l[k]).all (·.oneCell') = true) := hid rfl
      have HRG := hid (hrd.range Ac.len k hkl)
      have HX : Hid (∀ fq W, Gk 63 p SK fq W → Calls Try.prog 28 #[.pointer (some ⟨p, 0, none⟩), .agg (Ac.cells l[k]).toArray] W fun e w' => e = .returned (.string ⟨bs.toArray⟩) ∧ Gw 63 p W fq SN w') := hid fun fq W hg => by
        rw [← HBS.out, ← HSN.out]
        exact makea_any p fq SK l[k] W hg (HOK.out k hkl)
      generalize Ac.cells l[k] = X at *
      clear hrd hne hgw hlen hlen2 h2
      go_wp2_with (first
        | (refine wpList_load_mid rfl 45 (.tmp 24) rfl ga (o + k * 4) rfl X _ HRG.out Try.underlying45 rfl (by rw [HC4.out]; exact HZ.out) ?_)
        | (refine wpl_store_st rfl (.tmp 11) (.tmp 25) rfl HZ.out wr.heap.size ac0.cells X rfl rfl (Row.new _ _ _) ?_ (hid rfl) (hid HC4.out) (hid HC1.out); intro w2 hr2 hg2; have hb2 : Below wr.heap.size wr w2 := ((Below.refl _ _).alloc (Nat.le_refl _) _).trans (below_grown hg2 (Nat.le_refl _) (by simp)))
        | (refine wpList_load_row rfl 45 (.tmp 11) rfl wr.heap.size rfl 45 X.toArray (0, 0) _ hr2.arr' Try.underlying45 rfl (by rw [List.size_toArray, HC4.out]; exact HZ.out) ?_)
        | (go_at_call 28; refine ((HGW.out.below hb2).call (fun fq hk => HX.out fq w2 hk)).mono ?_; rintro e w3 ⟨rfl, hg3⟩; have HG3 := hid hg3; clear hg3))
      exact ⟨⟨k + 1, by omega, by go_num, by rw [HS.out, ← cat_mk], by rw [HS.out]; exact HG3.out⟩, by simp [intOf]; omega⟩
    · obtain rfl : k = n := by omega
      clear hgw
      go_wp2_with fail
      go_ret
      refine ⟨by rw [HEND.out]; rfl, ?_⟩
      rw [← HEND.out]
      obtain ⟨fq, k1, k2, k3⟩ := HGW.out
      have hs1 := HB1.out.size
      exact ⟨fq, k1, ((Fr.of_below HB1.out).mono (fq := fp) (by simp)).trans k2 (fun b hb _ => hb), fun g hg => by
        rcases k3 g hg with h | h
        · exact .inl h
        · right; omega⟩
theorem each_mka (p : Nat) (fp : List Nat) (S : Lg) (s : ByteArray) (w : World) (hs : s.size ≤ 140737488355328) (h : Gk 63 p S fp w) :
    Calls Try.prog 26 #[.string s, .func (.func 27) #[] #[], .func (.func 28) #[.pointer (some ⟨p, 0, none⟩)] #[]] w fun e w' => e = .returned (.string ⟨(eachL mka S (takL 9 decA (sb s))).2.toArray⟩) ∧ Gw 63 p w fp (eachL mka S (takL 9 decA (sb s))).1 w' := by
  cases hb : (takL 9 decA (sb s)).2
  · refine (each_mka_no p S s w hs hb).mono fun e w' hh => ⟨hh.1, ?_⟩
    unfold eachL
    rw [if_neg (by rw [hb]; decide)]
    exact (Gw.start h).below hh.2
  · unfold eachL
    rw [if_pos hb]
    exact each_mka_yes p fp S s w hs h _ (Prod.ext rfl hb)

set_option maxHeartbeats 400000 in
theorem each_mkt_no (p : Nat) (S : Lg) (s : ByteArray) (w : World) (hs : s.size ≤ 140737488355328) (hno : (takL 32 decT (sb s)).2 = false) :
    Calls Try.prog 29 #[.string s, .func (.func 30) #[] #[], .func (.func 31) #[.pointer (some ⟨p, 0, none⟩)] #[]] w (SE w (eachL mkt S (takL 32 decT (sb s))).2) := by
  have HT := hid (takt_list s w hs)
  have e : (eachL mkt S (takL 32 decT (sb s))).2 = [1] := by
    unfold eachL
    rw [if_neg (by rw [hno]; decide)]
  rw [e]
  obtain ⟨⟨l, b⟩, hr⟩ : ∃ r, takL 32 decT (sb s) = r := ⟨_, rfl⟩
  rw [hr] at hno HT
  obtain rfl : b = false := hno
  have HT2 : Hid (Calls Try.prog 30 #[.string s] w fun e w' => ∃ A c, e = .returned (.tuple #[.slice A l.length c, .bool false]) ∧ Below w.heap.size w w') := hid (HT.out.mono fun e w' ⟨A, c, h1, _, _, h2, _⟩ => ⟨A, c, h1, h2⟩)
  clear e HT hr hs
  go_enter Try.func29, Try.ntmps29
  go_wp2_with (go_at_call 30; refine HT2.out.mono ?_; rintro e w1 ⟨A, c, rfl, hb1⟩)
  go_ret
  exact ⟨rfl, hb1⟩
set_option maxHeartbeats 1000000 in
theorem each_mkt_yes (p : Nat) (fp : List Nat) (S : Lg) (s : ByteArray) (w : World) (hs : s.size ≤ 140737488355328) (h : Gk 63 p S fp w) (l : List Tr) (hr : takL 32 decT (sb s) = (l, true)) :
    Calls Try.prog 29 #[.string s, .func (.func 30) #[] #[], .func (.func 31) #[.pointer (some ⟨p, 0, none⟩)] #[]] w fun e w' => e = .returned (.string ⟨(runL mkt S l).2.toArray⟩) ∧ Gw 63 p w fp (runL mkt S l).1 w' := by
  have HT := hid (takt_list s w hs)
  have hle := takL_le 32 decT (sb s)
  have hok := takL_all (n := 32) (s := sb s) decT_ok
  rw [hr] at HT hle hok
  simp only at hle hok
  obtain ⟨n, hn⟩ : ∃ n, n = l.length := ⟨_, rfl⟩
  have HT2 : Hid (Calls Try.prog 30 #[.string s] w fun e w' => ∃ A c, e = .returned (.tuple #[.slice A n c, .bool true]) ∧ n ≤ c ∧ Rd w' w'.heap.size A (rows Tr.cells l) ∧ Below w.heap.size w w' ∧ NewA w A) := hid (by rw [hn]; exact HT.out)
  rw [← hn] at hle
  have HN := hid hn
  have HOK := hid (fun k (hk : k < l.length) => hok l[k] (List.getElem_mem hk))
  have HLT := hid h.lt
  have HH := hid h
  have HZ := hid trSize
  have HEND : Hid (runL mkt S (l.take n) = runL mkt S l) := hid (by rw [List.take_of_length_le (by omega)])
  have HST := hid (fun k (hk : k < l.length) => runL_take mkt S l k hk)
  have HLE := hid (fun k => runL_len mkt 33 mkt_len S (l.take k))
  have HTL : Hid (∀ k, (l.take k).length ≤ k) := hid fun k => List.length_take_le _ _
  clear HT hr hs hok hn h
  go_enter Try.func29, Try.ntmps29
  go_wp2_with (go_at_call 30; refine HT2.out.mono ?_; rintro e w1 ⟨A, c, rfl, hnc, hrd1, hb1, hnew⟩)
  have HRD := hid hrd1
  have HB1 := hid hb1
  have HNEW := hid hnew
  have HG1 := hid (Gw.start (HH.out.below hb1))
  clear hrd1 hb1 hnew HT2
  go_loopw [9, 22] (fun sv i wr => ∃ k : Nat, k ≤ n ∧ i = .int .i64 k ∧ sv = .string ⟨(runL mkt S (l.take k)).2.toArray⟩ ∧ Gw 63 p w1 fp (runL mkt S (l.take k)).1 wr) (fun _ i _ => n - (intOf i).toNat)
  case atStart => exact ⟨0, by omega, rfl, rfl, HG1.out⟩
  case round =>
    obtain ⟨k, hk, rfl, rfl, hgw⟩ := hrel
    have HGW := hid hgw
    have hlen := HLE.out k
    have hlen2 := HTL.out k
    by_cases hlt : k < n
    · have hkl : k < l.length := by rw [← HN.out]; exact hlt
      have hrd := hgw.rdA HRD.out HNEW.out HLT.out
      have hne : rows Tr.cells l ≠ [] := by
        intro e
        have := rows_len (C := Tr.cells) Tr.len l
        rw [e] at this
        simp at this
        omega
      obtain ⟨ga, o, rfl, hga, hx⟩ := (show _ from hrd) hne
      clear hx
      have HS := hid (HST.out k hkl)
      have h2 := mkt_len (runL mkt S (l.take k)).1 l[k]
      obtain ⟨SK, hSK⟩ : ∃ SK, (runL mkt S (l.take k)).1 = SK := ⟨_, rfl⟩
      rw [hSK] at h2 HGW HS
      obtain ⟨acc, hac⟩ : ∃ acc, (runL mkt S (l.take k)).2 = acc := ⟨_, rfl⟩
      rw [hac] at hlen HS ⊢
      obtain ⟨bs, hbs⟩ : ∃ bs, (mkt SK l[k]).2 = bs := ⟨_, rfl⟩
      obtain ⟨SN, hSN⟩ : ∃ SN, (mkt SK l[k]).1 = SN := ⟨_, rfl⟩
      rw [hbs] at h2 HS
      rw [hSN] at HS
      have HBS := hid hbs
      have HSN := hid hSN
      have hq : ¬ (9223372036854775807 < acc.length + bs.length) := by omega
      clear hSK hac hbs hSN
      have HC4 : Hid ((Tr.cells l[k]).length = 4) := hid (Tr.len _)
      have HC1 : Hid ((Tr.cells l[k]).all (·.oneCell') = true) := hid rfl
      have HRG := hid (hrd.range Tr.len k hkl)
      have HX : Hid (∀ fq W, Gk 63 p SK fq W → Calls Try.prog 31 #[.pointer (some ⟨p, 0, none⟩), .agg (Tr.cells l[k]).toArray] W fun e w' => e = .returned (.string ⟨bs.toArray⟩) ∧ Gw 63 p W fq SN w') := hid fun fq W hg => by
        rw [← HBS.out, ← HSN.out]
        exact maket_any p fq SK l[k] W hg (HOK.out k hkl)
      generalize Tr.cells l[k] = X at *
      clear hrd hne hgw hlen hlen2 h2
      go_wp2_with (first
        | (refine wpList_load_mid rfl 43 (.tmp 24) rfl ga (o + k * 4) rfl X _ HRG.out Try.underlying43 rfl (by rw [HC4.out]; exact HZ.out) ?_)
        | (refine wpl_store_st rfl (.tmp 11) (.tmp 25) rfl HZ.out wr.heap.size tr0.cells X rfl rfl (Row.new _ _ _) ?_ (hid rfl) (hid HC4.out) (hid HC1.out); intro w2 hr2 hg2; have hb2 : Below wr.heap.size wr w2 := ((Below.refl _ _).alloc (Nat.le_refl _) _).trans (below_grown hg2 (Nat.le_refl _) (by simp)))
        | (refine wpList_load_row rfl 43 (.tmp 11) rfl wr.heap.size rfl 43 X.toArray (0, 0) _ hr2.arr' Try.underlying43 rfl (by rw [List.size_toArray, HC4.out]; exact HZ.out) ?_)
        | (go_at_call 31; refine ((HGW.out.below hb2).call (fun fq hk => HX.out fq w2 hk)).mono ?_; rintro e w3 ⟨rfl, hg3⟩; have HG3 := hid hg3; clear hg3))
      exact ⟨⟨k + 1, by omega, by go_num, by rw [HS.out, ← cat_mk], by rw [HS.out]; exact HG3.out⟩, by simp [intOf]; omega⟩
    · obtain rfl : k = n := by omega
      clear hgw
      go_wp2_with fail
      go_ret
      refine ⟨by rw [HEND.out]; rfl, ?_⟩
      rw [← HEND.out]
      obtain ⟨fq, k1, k2, k3⟩ := HGW.out
      have hs1 := HB1.out.size
      exact ⟨fq, k1, ((Fr.of_below HB1.out).mono (fq := fp) (by simp)).trans k2 (fun b hb _ => hb), fun g hg => by
        rcases k3 g hg with h | h
        · exact .inl h
        · right; omega⟩
theorem each_mkt (p : Nat) (fp : List Nat) (S : Lg) (s : ByteArray) (w : World) (hs : s.size ≤ 140737488355328) (h : Gk 63 p S fp w) :
    Calls Try.prog 29 #[.string s, .func (.func 30) #[] #[], .func (.func 31) #[.pointer (some ⟨p, 0, none⟩)] #[]] w fun e w' => e = .returned (.string ⟨(eachL mkt S (takL 32 decT (sb s))).2.toArray⟩) ∧ Gw 63 p w fp (eachL mkt S (takL 32 decT (sb s))).1 w' := by
  cases hb : (takL 32 decT (sb s)).2
  · refine (each_mkt_no p S s w hs hb).mono fun e w' hh => ⟨hh.1, ?_⟩
    unfold eachL
    rw [if_neg (by rw [hb]; decide)]
    exact (Gw.start h).below hh.2
  · unfold eachL
    rw [if_pos hb]
    exact each_mkt_yes p fp S s w hs h _ (Prod.ext rfl hb)

set_option maxHeartbeats 400000 in
theorem each_tela_no (p : Nat) (S : Lg) (s : ByteArray) (w : World) (hs : s.size ≤ 140737488355328) (hno : (takL 8 decI (sb s)).2 = false) :
    Calls Try.prog 32 #[.string s, .func (.func 33) #[] #[], .func (.func 34) #[.pointer (some ⟨p, 0, none⟩)] #[]] w (SE w (eachL tela S (takL 8 decI (sb s))).2) := by
  have HT := hid (taki_list s w hs)
  have e : (eachL tela S (takL 8 decI (sb s))).2 = [1] := by
    unfold eachL
    rw [if_neg (by rw [hno]; decide)]
  rw [e]
  obtain ⟨⟨l, b⟩, hr⟩ : ∃ r, takL 8 decI (sb s) = r := ⟨_, rfl⟩
  rw [hr] at hno HT
  obtain rfl : b = false := hno
  have HT2 : Hid (Calls Try.prog 33 #[.string s] w fun e w' => ∃ A c, e = .returned (.tuple #[.slice A l.length c, .bool false]) ∧ Below w.heap.size w w') := hid (HT.out.mono fun e w' ⟨A, c, h1, _, _, h2, _⟩ => ⟨A, c, h1, h2⟩)
  clear e HT hr hs
  go_enter Try.func32, Try.ntmps32
  go_wp2_with (go_at_call 33; refine HT2.out.mono ?_; rintro e w1 ⟨A, c, rfl, hb1⟩)
  go_ret
  exact ⟨rfl, hb1⟩
set_option maxHeartbeats 1000000 in
theorem each_tela_yes (p : Nat) (fp : List Nat) (S : Lg) (s : ByteArray) (w : World) (hs : s.size ≤ 140737488355328) (h : Gk 63 p S fp w) (l : List Nat) (hr : takL 8 decI (sb s) = (l, true)) :
    Calls Try.prog 32 #[.string s, .func (.func 33) #[] #[], .func (.func 34) #[.pointer (some ⟨p, 0, none⟩)] #[]] w fun e w' => e = .returned (.string ⟨(runL tela S l).2.toArray⟩) ∧ Gw 63 p w fp (runL tela S l).1 w' := by
  have HT := hid (taki_list s w hs)
  have hle := takL_le 8 decI (sb s)
  have hok := takL_all (n := 8) (s := sb s) decI_ok
  rw [hr] at HT hle hok
  simp only at hle hok
  obtain ⟨n, hn⟩ : ∃ n, n = l.length := ⟨_, rfl⟩
  have HT2 : Hid (Calls Try.prog 33 #[.string s] w fun e w' => ∃ A c, e = .returned (.tuple #[.slice A n c, .bool true]) ∧ n ≤ c ∧ Rd w' w'.heap.size A (rows Ic l) ∧ Below w.heap.size w w' ∧ NewA w A) := hid (by rw [hn]; exact HT.out)
  rw [← hn] at hle
  have HN := hid hn
  have HOK := hid (fun k (hk : k < l.length) => hok l[k] (List.getElem_mem hk))
  have HLT := hid h.lt
  have HH := hid h
  have HEND : Hid (runL tela S (l.take n) = runL tela S l) := hid (by rw [List.take_of_length_le (by omega)])
  have HST := hid (fun k (hk : k < l.length) => runL_take tela S l k hk)
  have HLE := hid (fun k => runL_len tela 33 tela_len S (l.take k))
  have HTL : Hid (∀ k, (l.take k).length ≤ k) := hid fun k => List.length_take_le _ _
  clear HT hr hs hok hn h
  go_enter Try.func32, Try.ntmps32
  go_wp2_with (go_at_call 33; refine HT2.out.mono ?_; rintro e w1 ⟨A, c, rfl, hnc, hrd1, hb1, hnew⟩)
  have HRD := hid hrd1
  have HB1 := hid hb1
  have HNEW := hid hnew
  have HG1 := hid (Gw.start (HH.out.below hb1))
  clear hrd1 hb1 hnew HT2
  go_loopw [9, 22] (fun sv i wr => ∃ k : Nat, k ≤ n ∧ i = .int .i64 k ∧ sv = .string ⟨(runL tela S (l.take k)).2.toArray⟩ ∧ Gw 63 p w1 fp (runL tela S (l.take k)).1 wr) (fun _ i _ => n - (intOf i).toNat)
  case atStart => exact ⟨0, by omega, rfl, rfl, HG1.out⟩
  case round =>
    obtain ⟨k, hk, rfl, rfl, hgw⟩ := hrel
    have HGW := hid hgw
    have hlen := HLE.out k
    have hlen2 := HTL.out k
    by_cases hlt : k < n
    · have hkl : k < l.length := by rw [← HN.out]; exact hlt
      have hrd := hgw.rdA HRD.out HNEW.out HLT.out
      have hne : rows Ic l ≠ [] := by
        intro e
        have := rows_len (C := Ic) Ic_len l
        rw [e] at this
        simp at this
        omega
      obtain ⟨ga, o, rfl, hga, hx⟩ := (show _ from hrd) hne
      clear hx
      have HS := hid (HST.out k hkl)
      have h2 := tela_len (runL tela S (l.take k)).1 l[k]
      obtain ⟨SK, hSK⟩ : ∃ SK, (runL tela S (l.take k)).1 = SK := ⟨_, rfl⟩
      rw [hSK] at h2 HGW HS
      obtain ⟨acc, hac⟩ : ∃ acc, (runL tela S (l.take k)).2 = acc := ⟨_, rfl⟩
      rw [hac] at hlen HS ⊢
      obtain ⟨bs, hbs⟩ : ∃ bs, (tela SK l[k]).2 = bs := ⟨_, rfl⟩
      obtain ⟨SN, hSN⟩ : ∃ SN, (tela SK l[k]).1 = SN := ⟨_, rfl⟩
      rw [hbs] at h2 HS
      rw [hSN] at HS
      have HBS := hid hbs
      have HSN := hid hSN
      have hq : ¬ (9223372036854775807 < acc.length + bs.length) := by omega
      clear hSK hac hbs hSN
      have hcl : wr.cell? ⟨ga, o + k, none⟩ = some (.int .u64 (l[k] : Int)) := by
        have := hrd.range Ic_len k hkl 0 _ rfl
        rw [Nat.mul_one] at this
        exact this
      have HX : Hid (∀ fq W, Gk 63 p SK fq W → Calls Try.prog 34 #[.pointer (some ⟨p, 0, none⟩), .int .u64 (l[k] : Int)] W fun e w' => e = .returned (.string ⟨bs.toArray⟩) ∧ Gw 63 p W fq SN w') := hid fun fq W hg => by
        rw [← HBS.out, ← HSN.out]
        exact tela_any p fq SK l[k] W hg
      generalize l[k] = X at *
      clear hrd hne hgw hlen hlen2 h2
      go_wp2_with ((go_at_call 34; refine (HGW.out.call (fun fq hk => HX.out fq wr hk)).mono ?_; rintro e w3 ⟨rfl, hg3⟩; have HG3 := hid hg3; clear hg3))
      exact ⟨⟨k + 1, by omega, by go_num, by rw [HS.out, ← cat_mk], by rw [HS.out]; exact HG3.out⟩, by simp [intOf]; omega⟩
    · obtain rfl : k = n := by omega
      clear hgw
      go_wp2_with fail
      go_ret
      refine ⟨by rw [HEND.out]; rfl, ?_⟩
      rw [← HEND.out]
      obtain ⟨fq, k1, k2, k3⟩ := HGW.out
      have hs1 := HB1.out.size
      exact ⟨fq, k1, ((Fr.of_below HB1.out).mono (fq := fp) (by simp)).trans k2 (fun b hb _ => hb), fun g hg => by
        rcases k3 g hg with h | h
        · exact .inl h
        · right; omega⟩
theorem each_tela (p : Nat) (fp : List Nat) (S : Lg) (s : ByteArray) (w : World) (hs : s.size ≤ 140737488355328) (h : Gk 63 p S fp w) :
    Calls Try.prog 32 #[.string s, .func (.func 33) #[] #[], .func (.func 34) #[.pointer (some ⟨p, 0, none⟩)] #[]] w fun e w' => e = .returned (.string ⟨(eachL tela S (takL 8 decI (sb s))).2.toArray⟩) ∧ Gw 63 p w fp (eachL tela S (takL 8 decI (sb s))).1 w' := by
  cases hb : (takL 8 decI (sb s)).2
  · refine (each_tela_no p S s w hs hb).mono fun e w' hh => ⟨hh.1, ?_⟩
    unfold eachL
    rw [if_neg (by rw [hb]; decide)]
    exact (Gw.start h).below hh.2
  · unfold eachL
    rw [if_pos hb]
    exact each_tela_yes p fp S s w hs h _ (Prod.ext rfl hb)

set_option maxHeartbeats 400000 in
theorem each_telt_no (p : Nat) (S : Lg) (s : ByteArray) (w : World) (hs : s.size ≤ 140737488355328) (hno : (takL 8 decI (sb s)).2 = false) :
    Calls Try.prog 32 #[.string s, .func (.func 33) #[] #[], .func (.func 35) #[.pointer (some ⟨p, 0, none⟩)] #[]] w (SE w (eachL telt S (takL 8 decI (sb s))).2) := by
  have HT := hid (taki_list s w hs)
  have e : (eachL telt S (takL 8 decI (sb s))).2 = [1] := by
    unfold eachL
    rw [if_neg (by rw [hno]; decide)]
  rw [e]
  obtain ⟨⟨l, b⟩, hr⟩ : ∃ r, takL 8 decI (sb s) = r := ⟨_, rfl⟩
  rw [hr] at hno HT
  obtain rfl : b = false := hno
  have HT2 : Hid (Calls Try.prog 33 #[.string s] w fun e w' => ∃ A c, e = .returned (.tuple #[.slice A l.length c, .bool false]) ∧ Below w.heap.size w w') := hid (HT.out.mono fun e w' ⟨A, c, h1, _, _, h2, _⟩ => ⟨A, c, h1, h2⟩)
  clear e HT hr hs
  go_enter Try.func32, Try.ntmps32
  go_wp2_with (go_at_call 33; refine HT2.out.mono ?_; rintro e w1 ⟨A, c, rfl, hb1⟩)
  go_ret
  exact ⟨rfl, hb1⟩
set_option maxHeartbeats 1000000 in
theorem each_telt_yes (p : Nat) (fp : List Nat) (S : Lg) (s : ByteArray) (w : World) (hs : s.size ≤ 140737488355328) (h : Gk 63 p S fp w) (l : List Nat) (hr : takL 8 decI (sb s) = (l, true)) :
    Calls Try.prog 32 #[.string s, .func (.func 33) #[] #[], .func (.func 35) #[.pointer (some ⟨p, 0, none⟩)] #[]] w fun e w' => e = .returned (.string ⟨(runL telt S l).2.toArray⟩) ∧ Gw 63 p w fp (runL telt S l).1 w' := by
  have HT := hid (taki_list s w hs)
  have hle := takL_le 8 decI (sb s)
  have hok := takL_all (n := 8) (s := sb s) decI_ok
  rw [hr] at HT hle hok
  simp only at hle hok
  obtain ⟨n, hn⟩ : ∃ n, n = l.length := ⟨_, rfl⟩
  have HT2 : Hid (Calls Try.prog 33 #[.string s] w fun e w' => ∃ A c, e = .returned (.tuple #[.slice A n c, .bool true]) ∧ n ≤ c ∧ Rd w' w'.heap.size A (rows Ic l) ∧ Below w.heap.size w w' ∧ NewA w A) := hid (by rw [hn]; exact HT.out)
  rw [← hn] at hle
  have HN := hid hn
  have HOK := hid (fun k (hk : k < l.length) => hok l[k] (List.getElem_mem hk))
  have HLT := hid h.lt
  have HH := hid h
  have HEND : Hid (runL telt S (l.take n) = runL telt S l) := hid (by rw [List.take_of_length_le (by omega)])
  have HST := hid (fun k (hk : k < l.length) => runL_take telt S l k hk)
  have HLE := hid (fun k => runL_len telt 33 telt_len S (l.take k))
  have HTL : Hid (∀ k, (l.take k).length ≤ k) := hid fun k => List.length_take_le _ _
  clear HT hr hs hok hn h
  go_enter Try.func32, Try.ntmps32
  go_wp2_with (go_at_call 33; refine HT2.out.mono ?_; rintro e w1 ⟨A, c, rfl, hnc, hrd1, hb1, hnew⟩)
  have HRD := hid hrd1
  have HB1 := hid hb1
  have HNEW := hid hnew
  have HG1 := hid (Gw.start (HH.out.below hb1))
  clear hrd1 hb1 hnew HT2
  go_loopw [9, 22] (fun sv i wr => ∃ k : Nat, k ≤ n ∧ i = .int .i64 k ∧ sv = .string ⟨(runL telt S (l.take k)).2.toArray⟩ ∧ Gw 63 p w1 fp (runL telt S (l.take k)).1 wr) (fun _ i _ => n - (intOf i).toNat)
  case atStart => exact ⟨0, by omega, rfl, rfl, HG1.out⟩
  case round =>
    obtain ⟨k, hk, rfl, rfl, hgw⟩ := hrel
    have HGW := hid hgw
    have hlen := HLE.out k
    have hlen2 := HTL.out k
    by_cases hlt : k < n
    · have hkl : k < l.length := by rw [← HN.out]; exact hlt
      have hrd := hgw.rdA HRD.out HNEW.out HLT.out
      have hne : rows Ic l ≠ [] := by
        intro e
        have := rows_len (C := Ic) Ic_len l
        rw [e] at this
        simp at this
        omega
      obtain ⟨ga, o, rfl, hga, hx⟩ := (show _ from hrd) hne
      clear hx
      have HS := hid (HST.out k hkl)
      have h2 := telt_len (runL telt S (l.take k)).1 l[k]
      obtain ⟨SK, hSK⟩ : ∃ SK, (runL telt S (l.take k)).1 = SK := ⟨_, rfl⟩
      rw [hSK] at h2 HGW HS
      obtain ⟨acc, hac⟩ : ∃ acc, (runL telt S (l.take k)).2 = acc := ⟨_, rfl⟩
      rw [hac] at hlen HS ⊢
      obtain ⟨bs, hbs⟩ : ∃ bs, (telt SK l[k]).2 = bs := ⟨_, rfl⟩
      obtain ⟨SN, hSN⟩ : ∃ SN, (telt SK l[k]).1 = SN := ⟨_, rfl⟩
      rw [hbs] at h2 HS
      rw [hSN] at HS
      have HBS := hid hbs
      have HSN := hid hSN
      have hq : ¬ (9223372036854775807 < acc.length + bs.length) := by omega
      clear hSK hac hbs hSN
      have hcl : wr.cell? ⟨ga, o + k, none⟩ = some (.int .u64 (l[k] : Int)) := by
        have := hrd.range Ic_len k hkl 0 _ rfl
        rw [Nat.mul_one] at this
        exact this
      have HX : Hid (∀ fq W, Gk 63 p SK fq W → Calls Try.prog 35 #[.pointer (some ⟨p, 0, none⟩), .int .u64 (l[k] : Int)] W fun e w' => e = .returned (.string ⟨bs.toArray⟩) ∧ Gw 63 p W fq SN w') := hid fun fq W hg => by
        rw [← HBS.out, ← HSN.out]
        exact telt_any p fq SK l[k] W hg
      generalize l[k] = X at *
      clear hrd hne hgw hlen hlen2 h2
      go_wp2_with ((go_at_call 35; refine (HGW.out.call (fun fq hk => HX.out fq wr hk)).mono ?_; rintro e w3 ⟨rfl, hg3⟩; have HG3 := hid hg3; clear hg3))
      exact ⟨⟨k + 1, by omega, by go_num, by rw [HS.out, ← cat_mk], by rw [HS.out]; exact HG3.out⟩, by simp [intOf]; omega⟩
    · obtain rfl : k = n := by omega
      clear hgw
      go_wp2_with fail
      go_ret
      refine ⟨by rw [HEND.out]; rfl, ?_⟩
      rw [← HEND.out]
      obtain ⟨fq, k1, k2, k3⟩ := HGW.out
      have hs1 := HB1.out.size
      exact ⟨fq, k1, ((Fr.of_below HB1.out).mono (fq := fp) (by simp)).trans k2 (fun b hb _ => hb), fun g hg => by
        rcases k3 g hg with h | h
        · exact .inl h
        · right; omega⟩
theorem each_telt (p : Nat) (fp : List Nat) (S : Lg) (s : ByteArray) (w : World) (hs : s.size ≤ 140737488355328) (h : Gk 63 p S fp w) :
    Calls Try.prog 32 #[.string s, .func (.func 33) #[] #[], .func (.func 35) #[.pointer (some ⟨p, 0, none⟩)] #[]] w fun e w' => e = .returned (.string ⟨(eachL telt S (takL 8 decI (sb s))).2.toArray⟩) ∧ Gw 63 p w fp (eachL telt S (takL 8 decI (sb s))).1 w' := by
  cases hb : (takL 8 decI (sb s)).2
  · refine (each_telt_no p S s w hs hb).mono fun e w' hh => ⟨hh.1, ?_⟩
    unfold eachL
    rw [if_neg (by rw [hb]; decide)]
    exact (Gw.start h).below hh.2
  · unfold eachL
    rw [if_pos hb]
    exact each_telt_yes p fp S s w hs h _ (Prod.ext rfl hb)
end Go.Proofs.Ytbofabmgfkploaa
