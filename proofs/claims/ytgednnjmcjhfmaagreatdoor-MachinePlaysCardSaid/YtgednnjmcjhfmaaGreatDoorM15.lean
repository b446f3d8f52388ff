/-
  The walks of package ledger's each, for each of its four uses.
-/
import Derived.Test.YtgednnjmcjhfmaaGreatDoorM11
import Derived.Test.YtgednnjmcjhfmaaGreatDoorM14
import Derived.Test.YtgednnjmcjhfmaaGreatDoorM10
import Derived.Test.YtgednnjmcjhfmaaGreatDoorM02
namespace Go.Proofs.YtgednnjmcjhfmaaGreatDoor
open Go.RowKit
set_option maxRecDepth 10000
set_option maxHeartbeats 80000000
theorem runL_len {α : Type} (f : Lg → α → Lg × List UInt8) (m : Nat) (hf : ∀ S x, (f S x).2.length ≤ m) (S : Lg) (l : List α) : (runL f S l).2.length ≤ 1 + l.length * m := by
 have key : ∀ (l : List α) (r : Lg × List UInt8), (l.foldl (fun r x => ((f r.1 x).1, r.2 ++ (f r.1 x).2)) r).2.length ≤ r.2.length + l.length * m := by
  intro l
  induction l with
  | nil => intro r; simp
  | cons x t ih =>
   intro r
   have h1 := ih ((f r.1 x).1, r.2 ++ (f r.1 x).2)
   have h2 := hf r.1 x
   simp only [List.foldl_cons, List.length_cons, Nat.add_mul, Nat.one_mul] at h1 ⊢
   rw [List.length_append] at h1
   omega
 exact key l (S, [0])
theorem mka_len (S : Lg) (x : Ac) : (mka S x).2.length ≤ 33 := by simp [mka]
theorem mkt_len (S : Lg) (x : Tr) : (mkt S x).2.length ≤ 33 := by simp [mkt]
theorem tela_len (S : Lg) (x : Nat) : (tela S x).2.length ≤ 33 := by
 have := acB_le (S.ac (S.fa x))
 simp only [tela]
 split <;> simp <;> omega
theorem telt_len (S : Lg) (x : Nat) : (telt S x).2.length ≤ 33 := by
 have := trL_le (S.tr (S.ft x))
 simp only [telt]
 split <;> simp <;> omega
theorem Gw.rdA {X p : Nat} {w w1 wr : World} {fp : List Nat} {S : Lg} {A : Option Addr} {xs : List Value} (h : Gw X p w1 fp S wr) (hr : Rd w1 w1.heap.size A xs) (hn : NewA w A) (hf : ∀ b ∈ fp, b < w.heap.size) : Rd wr w1.heap.size A xs := fun hne => by
 obtain ⟨g, o, rfl, hg, hc⟩ := (show _ from hr) hne
 have hg2 : w.heap.size ≤ g := hn _ rfl
 exact h.rd (B := w1.heap.size) (fun _ => ⟨g, o, rfl, hg, hc⟩) (fun hm => by have := hf g hm; omega) (Nat.le_refl _) hne
theorem each_mka_no (p : Nat) (S : Lg) (s : ByteArray) (w : World) (hs : s.size ≤ 140737488355328) (hno : (takL 9 decA (sb s)).2 = false) :
  Calls Tryz.prog 85 #[.string s, .func (.func 86) #[] #[], .func (.func 87) #[.pointer (some ⟨p, 0, none⟩)] #[]] w (SE w (eachL mka S (takL 9 decA (sb s))).2) := by
 have HT := hid (taka_list s w hs)
 have e : (eachL mka S (takL 9 decA (sb s))).2 = [1] := by
  unfold eachL
  rw [if_neg (by rw [hno]; decide)]
 rw [e]
 obtain ⟨⟨l, b⟩, hr⟩ : ∃ r, takL 9 decA (sb s) = r := ⟨_, rfl⟩
 rw [hr] at hno HT
 obtain rfl : b = false := hno
 have HT2 : Hid (Calls Tryz.prog 86 #[.string s] w fun e w' => ∃ A c, e = .returned (.tuple #[.slice A l.length c, .bool false]) ∧ Below w.heap.size w w') := hid (HT.out.mono fun e w' ⟨A, c, h1, _, _, h2, _⟩ => ⟨A, c, h1, h2⟩)
 clear e HT hr hs
 go_enter Tryz.func85, Tryz.ntmps85
 go_wp2_with (go_at_call 86; refine HT2.out.mono ?_; rintro e w1 ⟨A, c, rfl, hb1⟩)
 go_ret
 exact ⟨rfl, hb1⟩
theorem each_mka_yes (p : Nat) (fp : List Nat) (S : Lg) (s : ByteArray) (w : World) (hs : s.size ≤ 140737488355328) (h : Gk 96 p S fp w) (l : List Ac) (hr : takL 9 decA (sb s) = (l, true)) :
  Calls Tryz.prog 85 #[.string s, .func (.func 86) #[] #[], .func (.func 87) #[.pointer (some ⟨p, 0, none⟩)] #[]] w fun e w' => e = .returned (.string ⟨(runL mka S l).2.toArray⟩) ∧ Gw 96 p w fp (runL mka S l).1 w' := by
 have HT := hid (taka_list s w hs)
 have hle := takL_le 9 decA (sb s)
 have hok := takL_all (n := 9) (s := sb s) decA_flat
 rw [hr] at HT hle hok
 simp only at hle hok
 obtain ⟨n, hn⟩ : ∃ n, n = l.length := ⟨_, rfl⟩
 have HT2 : Hid (Calls Tryz.prog 86 #[.string s] w fun e w' => ∃ A c, e = .returned (.tuple #[.slice A n c, .bool true]) ∧ n ≤ c ∧ Rd w' w'.heap.size A (rows Ac.cells l) ∧ Below w.heap.size w w' ∧ NewA w A) := hid (by rw [hn]; exact HT.out)
 rw [← hn] at hle
 have HN := hid hn
 have HOK := hid (fun k (hk : k < l.length) => hok l[k] (List.getElem_mem hk))
 have HLT := hid h.lt
 have HH := hid h
 have HZ := hid acSize
 have HEND : Hid (runL mka S (l.take n) = runL mka S l) := hid (by rw [List.take_of_length_le (by omega)])
 have HST := hid (fun k (hk : k < l.length) => runL_take mka S l k hk)
 have HLE := hid (fun k => runL_len mka 33 mka_len S (l.take k))
 have HTL : Hid (∀ k, (l.take k).length ≤ k) := hid fun k => List.length_take_le _ _
 clear HT hr hs hok hn h
 go_enter Tryz.func85, Tryz.ntmps85
 go_wp2_with (go_at_call 86; refine HT2.out.mono ?_; rintro e w1 ⟨A, c, rfl, hnc, hrd1, hb1, hnew⟩)
 have HRD := hid hrd1
 have HB1 := hid hb1
 have HNEW := hid hnew
 have HG1 := hid (Gw.start (HH.out.below hb1))
 clear hrd1 hb1 hnew HT2
 go_loopw [9, 22] (fun sv i wr => ∃ k : Nat, k ≤ n ∧ i = .int .i64 k ∧ sv = .string ⟨(runL mka S (l.take k)).2.toArray⟩ ∧ Gw 96 p w1 fp (runL mka S (l.take k)).1 wr) (fun _ i _ => n - (intOf i).toNat)
 case atStart => exact ⟨0, by omega, rfl, rfl, HG1.out⟩
 case round =>
  obtain ⟨k, hk, rfl, rfl, hgw⟩ := hrel
  have HGW := hid hgw
  have hlen := HLE.out k
  have hlen2 := HTL.out k
  by_cases hlt : k < n
  ·
   have hkl : k < l.length := by rw [← HN.out]; exact hlt
   have hrd := hgw.rdA HRD.out HNEW.out HLT.out
   have hne : rows Ac.cells l ≠ [] := by
    intro e
    have := rows_len (C := Ac.cells) Ac.len l
    rw [e] at this
    simp at this
    omega
   obtain ⟨ga, o, rfl, hga, hx⟩ := (show _ from hrd) hne
   clear hx
   have HS := hid (HST.out k hkl)
   have h2 := mka_len (runL mka S (l.take k)).1 l[k]
   obtain ⟨SK, hSK⟩ : ∃ SK, (runL mka S (l.take k)).1 = SK := ⟨_, rfl⟩
   rw [hSK] at h2 HGW HS
   obtain ⟨acc, hac⟩ : ∃ acc, (runL mka S (l.take k)).2 = acc := ⟨_, rfl⟩
   rw [hac] at hlen HS ⊢
   obtain ⟨bs, hbs⟩ : ∃ bs, (mka SK l[k]).2 = bs := ⟨_, rfl⟩
   obtain ⟨SN, hSN⟩ : ∃ SN, (mka SK l[k]).1 = SN := ⟨_, rfl⟩
   rw [hbs] at h2 HS
   rw [hSN] at HS
   have HBS := hid hbs
   have HSN := hid hSN
   have hq : ¬ (9223372036854775807 < acc.length + bs.length) := by omega
   clear hSK hac hbs hSN
   have HC4 : Hid ((Ac.cells l[k]).length = 4) := hid (Ac.len _)
   have HC1 : Hid ((Ac.cells l[k]).all (·.oneCell') = true) := hid rfl
   have HRG := hid (hrd.range Ac.len k hkl)
   have HX : Hid (∀ fq W, Gk 96 p SK fq W → Calls Tryz.prog 87 #[.pointer (some ⟨p, 0, none⟩), .agg (Ac.cells l[k]).toArray] W fun e w' => e = .returned (.string ⟨bs.toArray⟩) ∧ Gw 96 p W fq SN w') := hid fun fq W hg => by
    rw [← HBS.out, ← HSN.out]
    exact makea_any p fq SK l[k] W hg (HOK.out k hkl)
   generalize Ac.cells l[k] = X at *
   clear hrd hne hgw hlen hlen2 h2
   go_wp2_with (first
    | (refine wpList_load_mid rfl 80 (.tmp 24) rfl ga (o + k * 4) rfl X _ HRG.out Tryz.underlying80 rfl (by rw [HC4.out]; exact HZ.out) ?_)
    | (refine wpl_store_st rfl (.tmp 11) (.tmp 25) rfl HZ.out wr.heap.size ac0.cells X rfl rfl (Row.new _ _ _) ?_ (hid rfl) (hid HC4.out) (hid HC1.out); intro w2 hr2 hg2; have hb2 : Below wr.heap.size wr w2 := ((Below.refl _ _).alloc (Nat.le_refl _) _).trans (below_grown hg2 (Nat.le_refl _) (by simp)))
    | (refine wpList_load_row rfl 80 (.tmp 11) rfl wr.heap.size rfl 80 X.toArray (0, 0) _ hr2.arr' Tryz.underlying80 rfl (by rw [List.size_toArray, HC4.out]; exact HZ.out) ?_)
    | (go_at_call 87; refine ((HGW.out.below hb2).call (fun fq hk => HX.out fq w2 hk)).mono ?_; rintro e w3 ⟨rfl, hg3⟩; have HG3 := hid hg3; clear hg3))
   exact ⟨⟨k + 1, by omega, by go_num, by rw [HS.out, ← cat_mk], by rw [HS.out]; exact HG3.out⟩, by simp [intOf]; omega⟩
  ·
   obtain rfl : k = n := by omega
   clear hgw
   go_wp2_with fail
   go_ret
   refine ⟨by rw [HEND.out]; rfl, ?_⟩
   rw [← HEND.out]
   obtain ⟨fq, k1, k2, k3⟩ := HGW.out
   have hs1 := HB1.out.size
   exact ⟨fq, k1, ((Fr.of_below HB1.out).mono (fq := fp) (by simp)).trans k2 (fun b hb _ => hb), fun g hg => by
    rcases k3 g hg with h | h
    ·
     exact .inl h
    ·
     right; omega⟩
theorem each_mka (p : Nat) (fp : List Nat) (S : Lg) (s : ByteArray) (w : World) (hs : s.size ≤ 140737488355328) (h : Gk 96 p S fp w) :
  Calls Tryz.prog 85 #[.string s, .func (.func 86) #[] #[], .func (.func 87) #[.pointer (some ⟨p, 0, none⟩)] #[]] w fun e w' => e = .returned (.string ⟨(eachL mka S (takL 9 decA (sb s))).2.toArray⟩) ∧ Gw 96 p w fp (eachL mka S (takL 9 decA (sb s))).1 w' := by
 cases hb : (takL 9 decA (sb s)).2
 ·
  refine (each_mka_no p S s w hs hb).mono fun e w' hh => ⟨hh.1, ?_⟩
  unfold eachL
  rw [if_neg (by rw [hb]; decide)]
  exact (Gw.start h).below hh.2
 ·
  unfold eachL
  rw [if_pos hb]
  exact each_mka_yes p fp S s w hs h _ (Prod.ext rfl hb)
theorem each_mkt_no (p : Nat) (S : Lg) (s : ByteArray) (w : World) (hs : s.size ≤ 140737488355328) (hno : (takL 32 decT (sb s)).2 = false) :
  Calls Tryz.prog 88 #[.string s, .func (.func 89) #[] #[], .func (.func 90) #[.pointer (some ⟨p, 0, none⟩)] #[]] w (SE w (eachL mkt S (takL 32 decT (sb s))).2) := by
 have HT := hid (takt_list s w hs)
 have e : (eachL mkt S (takL 32 decT (sb s))).2 = [1] := by
  unfold eachL
  rw [if_neg (by rw [hno]; decide)]
 rw [e]
 obtain ⟨⟨l, b⟩, hr⟩ : ∃ r, takL 32 decT (sb s) = r := ⟨_, rfl⟩
 rw [hr] at hno HT
 obtain rfl : b = false := hno
 have HT2 : Hid (Calls Tryz.prog 89 #[.string s] w fun e w' => ∃ A c, e = .returned (.tuple #[.slice A l.length c, .bool false]) ∧ Below w.heap.size w w') := hid (HT.out.mono fun e w' ⟨A, c, h1, _, _, h2, _⟩ => ⟨A, c, h1, h2⟩)
 clear e HT hr hs
 go_enter Tryz.func88, Tryz.ntmps88
 go_wp2_with (go_at_call 89; refine HT2.out.mono ?_; rintro e w1 ⟨A, c, rfl, hb1⟩)
 go_ret
 exact ⟨rfl, hb1⟩
theorem each_mkt_yes (p : Nat) (fp : List Nat) (S : Lg) (s : ByteArray) (w : World) (hs : s.size ≤ 140737488355328) (h : Gk 96 p S fp w) (l : List Tr) (hr : takL 32 decT (sb s) = (l, true)) :
  Calls Tryz.prog 88 #[.string s, .func (.func 89) #[] #[], .func (.func 90) #[.pointer (some ⟨p, 0, none⟩)] #[]] w fun e w' => e = .returned (.string ⟨(runL mkt S l).2.toArray⟩) ∧ Gw 96 p w fp (runL mkt S l).1 w' := by
 have HT := hid (takt_list s w hs)
 have hle := takL_le 32 decT (sb s)
 have hok := takL_all (n := 32) (s := sb s) decT_ok
 rw [hr] at HT hle hok
 simp only at hle hok
 obtain ⟨n, hn⟩ : ∃ n, n = l.length := ⟨_, rfl⟩
 have HT2 : Hid (Calls Tryz.prog 89 #[.string s] w fun e w' => ∃ A c, e = .returned (.tuple #[.slice A n c, .bool true]) ∧ n ≤ c ∧ Rd w' w'.heap.size A (rows Tr.cells l) ∧ Below w.heap.size w w' ∧ NewA w A) := hid (by rw [hn]; exact HT.out)
 rw [← hn] at hle
 have HN := hid hn
 have HOK := hid (fun k (hk : k < l.length) => hok l[k] (List.getElem_mem hk))
 have HLT := hid h.lt
 have HH := hid h
 have HZ := hid trSize
 have HEND : Hid (runL mkt S (l.take n) = runL mkt S l) := hid (by rw [List.take_of_length_le (by omega)])
 have HST := hid (fun k (hk : k < l.length) => runL_take mkt S l k hk)
 have HLE := hid (fun k => runL_len mkt 33 mkt_len S (l.take k))
 have HTL : Hid (∀ k, (l.take k).length ≤ k) := hid fun k => List.length_take_le _ _
 clear HT hr hs hok hn h
 go_enter Tryz.func88, Tryz.ntmps88
 go_wp2_with (go_at_call 89; refine HT2.out.mono ?_; rintro e w1 ⟨A, c, rfl, hnc, hrd1, hb1, hnew⟩)
 have HRD := hid hrd1
 have HB1 := hid hb1
 have HNEW := hid hnew
 have HG1 := hid (Gw.start (HH.out.below hb1))
 clear hrd1 hb1 hnew HT2
 go_loopw [9, 22] (fun sv i wr => ∃ k : Nat, k ≤ n ∧ i = .int .i64 k ∧ sv = .string ⟨(runL mkt S (l.take k)).2.toArray⟩ ∧ Gw 96 p w1 fp (runL mkt S (l.take k)).1 wr) (fun _ i _ => n - (intOf i).toNat)
 case atStart => exact ⟨0, by omega, rfl, rfl, HG1.out⟩
 case round =>
  obtain ⟨k, hk, rfl, rfl, hgw⟩ := hrel
  have HGW := hid hgw
  have hlen := HLE.out k
  have hlen2 := HTL.out k
  by_cases hlt : k < n
  ·
   have hkl : k < l.length := by rw [← HN.out]; exact hlt
   have hrd := hgw.rdA HRD.out HNEW.out HLT.out
   have hne : rows Tr.cells l ≠ [] := by
    intro e
    have := rows_len (C := Tr.cells) Tr.len l
    rw [e] at this
    simp at this
    omega
   obtain ⟨ga, o, rfl, hga, hx⟩ := (show _ from hrd) hne
   clear hx
   have HS := hid (HST.out k hkl)
   have h2 := mkt_len (runL mkt S (l.take k)).1 l[k]
   obtain ⟨SK, hSK⟩ : ∃ SK, (runL mkt S (l.take k)).1 = SK := ⟨_, rfl⟩
   rw [hSK] at h2 HGW HS
   obtain ⟨acc, hac⟩ : ∃ acc, (runL mkt S (l.take k)).2 = acc := ⟨_, rfl⟩
   rw [hac] at hlen HS ⊢
   obtain ⟨bs, hbs⟩ : ∃ bs, (mkt SK l[k]).2 = bs := ⟨_, rfl⟩
   obtain ⟨SN, hSN⟩ : ∃ SN, (mkt SK l[k]).1 = SN := ⟨_, rfl⟩
   rw [hbs] at h2 HS
   rw [hSN] at HS
   have HBS := hid hbs
   have HSN := hid hSN
   have hq : ¬ (9223372036854775807 < acc.length + bs.length) := by omega
   clear hSK hac hbs hSN
   have HC4 : Hid ((Tr.cells l[k]).length = 4) := hid (Tr.len _)
   have HC1 : Hid ((Tr.cells l[k]).all (·.oneCell') = true) := hid rfl
   have HRG := hid (hrd.range Tr.len k hkl)
   have HX : Hid (∀ fq W, Gk 96 p SK fq W → Calls Tryz.prog 90 #[.pointer (some ⟨p, 0, none⟩), .agg (Tr.cells l[k]).toArray] W fun e w' => e = .returned (.string ⟨bs.toArray⟩) ∧ Gw 96 p W fq SN w') := hid fun fq W hg => by
    rw [← HBS.out, ← HSN.out]
    exact maket_any p fq SK l[k] W hg (HOK.out k hkl)
   generalize Tr.cells l[k] = X at *
   clear hrd hne hgw hlen hlen2 h2
   go_wp2_with (first
    | (refine wpList_load_mid rfl 82 (.tmp 24) rfl ga (o + k * 4) rfl X _ HRG.out Tryz.underlying82 rfl (by rw [HC4.out]; exact HZ.out) ?_)
    | (refine wpl_store_st rfl (.tmp 11) (.tmp 25) rfl HZ.out wr.heap.size tr0.cells X rfl rfl (Row.new _ _ _) ?_ (hid rfl) (hid HC4.out) (hid HC1.out); intro w2 hr2 hg2; have hb2 : Below wr.heap.size wr w2 := ((Below.refl _ _).alloc (Nat.le_refl _) _).trans (below_grown hg2 (Nat.le_refl _) (by simp)))
    | (refine wpList_load_row rfl 82 (.tmp 11) rfl wr.heap.size rfl 82 X.toArray (0, 0) _ hr2.arr' Tryz.underlying82 rfl (by rw [List.size_toArray, HC4.out]; exact HZ.out) ?_)
    | (go_at_call 90; refine ((HGW.out.below hb2).call (fun fq hk => HX.out fq w2 hk)).mono ?_; rintro e w3 ⟨rfl, hg3⟩; have HG3 := hid hg3; clear hg3))
   exact ⟨⟨k + 1, by omega, by go_num, by rw [HS.out, ← cat_mk], by rw [HS.out]; exact HG3.out⟩, by simp [intOf]; omega⟩
  ·
   obtain rfl : k = n := by omega
   clear hgw
   go_wp2_with fail
   go_ret
   refine ⟨by rw [HEND.out]; rfl, ?_⟩
   rw [← HEND.out]
   obtain ⟨fq, k1, k2, k3⟩ := HGW.out
   have hs1 := HB1.out.size
   exact ⟨fq, k1, ((Fr.of_below HB1.out).mono (fq := fp) (by simp)).trans k2 (fun b hb _ => hb), fun g hg => by
    rcases k3 g hg with h | h
    ·
     exact .inl h
    ·
     right; omega⟩
theorem each_mkt (p : Nat) (fp : List Nat) (S : Lg) (s : ByteArray) (w : World) (hs : s.size ≤ 140737488355328) (h : Gk 96 p S fp w) :
  Calls Tryz.prog 88 #[.string s, .func (.func 89) #[] #[], .func (.func 90) #[.pointer (some ⟨p, 0, none⟩)] #[]] w fun e w' => e = .returned (.string ⟨(eachL mkt S (takL 32 decT (sb s))).2.toArray⟩) ∧ Gw 96 p w fp (eachL mkt S (takL 32 decT (sb s))).1 w' := by
 cases hb : (takL 32 decT (sb s)).2
 ·
  refine (each_mkt_no p S s w hs hb).mono fun e w' hh => ⟨hh.1, ?_⟩
  unfold eachL
  rw [if_neg (by rw [hb]; decide)]
  exact (Gw.start h).below hh.2
 ·
  unfold eachL
  rw [if_pos hb]
  exact each_mkt_yes p fp S s w hs h _ (Prod.ext rfl hb)
theorem each_tela_no (p : Nat) (S : Lg) (s : ByteArray) (w : World) (hs : s.size ≤ 140737488355328) (hno : (takL 8 decI (sb s)).2 = false) :
  Calls Tryz.prog 91 #[.string s, .func (.func 92) #[] #[], .func (.func 93) #[.pointer (some ⟨p, 0, none⟩)] #[]] w (SE w (eachL tela S (takL 8 decI (sb s))).2) := by
 have HT := hid (taki_list s w hs)
 have e : (eachL tela S (takL 8 decI (sb s))).2 = [1] := by
  unfold eachL
  rw [if_neg (by rw [hno]; decide)]
 rw [e]
 obtain ⟨⟨l, b⟩, hr⟩ : ∃ r, takL 8 decI (sb s) = r := ⟨_, rfl⟩
 rw [hr] at hno HT
 obtain rfl : b = false := hno
 have HT2 : Hid (Calls Tryz.prog 92 #[.string s] w fun e w' => ∃ A c, e = .returned (.tuple #[.slice A l.length c, .bool false]) ∧ Below w.heap.size w w') := hid (HT.out.mono fun e w' ⟨A, c, h1, _, _, h2, _⟩ => ⟨A, c, h1, h2⟩)
 clear e HT hr hs
 go_enter Tryz.func91, Tryz.ntmps91
 go_wp2_with (go_at_call 92; refine HT2.out.mono ?_; rintro e w1 ⟨A, c, rfl, hb1⟩)
 go_ret
 exact ⟨rfl, hb1⟩
theorem each_tela_yes (p : Nat) (fp : List Nat) (S : Lg) (s : ByteArray) (w : World) (hs : s.size ≤ 140737488355328) (h : Gk 96 p S fp w) (l : List Nat) (hr : takL 8 decI (sb s) = (l, true)) :
  Calls Tryz.prog 91 #[.string s, .func (.func 92) #[] #[], .func (.func 93) #[.pointer (some ⟨p, 0, none⟩)] #[]] w fun e w' => e = .returned (.string ⟨(runL tela S l).2.toArray⟩) ∧ Gw 96 p w fp (runL tela S l).1 w' := by
 have HT := hid (taki_list s w hs)
 have hle := takL_le 8 decI (sb s)
 have hok := takL_all (n := 8) (s := sb s) decI_ok
 rw [hr] at HT hle hok
 simp only at hle hok
 obtain ⟨n, hn⟩ : ∃ n, n = l.length := ⟨_, rfl⟩
 have HT2 : Hid (Calls Tryz.prog 92 #[.string s] w fun e w' => ∃ A c, e = .returned (.tuple #[.slice A n c, .bool true]) ∧ n ≤ c ∧ Rd w' w'.heap.size A (rows Ic l) ∧ Below w.heap.size w w' ∧ NewA w A) := hid (by rw [hn]; exact HT.out)
 rw [← hn] at hle
 have HN := hid hn
 have HOK := hid (fun k (hk : k < l.length) => hok l[k] (List.getElem_mem hk))
 have HLT := hid h.lt
 have HH := hid h
 have HEND : Hid (runL tela S (l.take n) = runL tela S l) := hid (by rw [List.take_of_length_le (by omega)])
 have HST := hid (fun k (hk : k < l.length) => runL_take tela S l k hk)
 have HLE := hid (fun k => runL_len tela 33 tela_len S (l.take k))
 have HTL : Hid (∀ k, (l.take k).length ≤ k) := hid fun k => List.length_take_le _ _
 clear HT hr hs hok hn h
 go_enter Tryz.func91, Tryz.ntmps91
 go_wp2_with (go_at_call 92; refine HT2.out.mono ?_; rintro e w1 ⟨A, c, rfl, hnc, hrd1, hb1, hnew⟩)
 have HRD := hid hrd1
 have HB1 := hid hb1
 have HNEW := hid hnew
 have HG1 := hid (Gw.start (HH.out.below hb1))
 clear hrd1 hb1 hnew HT2
 go_loopw [9, 22] (fun sv i wr => ∃ k : Nat, k ≤ n ∧ i = .int .i64 k ∧ sv = .string ⟨(runL tela S (l.take k)).2.toArray⟩ ∧ Gw 96 p w1 fp (runL tela S (l.take k)).1 wr) (fun _ i _ => n - (intOf i).toNat)
 case atStart => exact ⟨0, by omega, rfl, rfl, HG1.out⟩
 case round =>
  obtain ⟨k, hk, rfl, rfl, hgw⟩ := hrel
  have HGW := hid hgw
  have hlen := HLE.out k
  have hlen2 := HTL.out k
  by_cases hlt : k < n
  ·
   have hkl : k < l.length := by rw [← HN.out]; exact hlt
   have hrd := hgw.rdA HRD.out HNEW.out HLT.out
   have hne : rows Ic l ≠ [] := by
    intro e
    have := rows_len (C := Ic) Ic_len l
    rw [e] at this
    simp at this
    omega
   obtain ⟨ga, o, rfl, hga, hx⟩ := (show _ from hrd) hne
   clear hx
   have HS := hid (HST.out k hkl)
   have h2 := tela_len (runL tela S (l.take k)).1 l[k]
   obtain ⟨SK, hSK⟩ : ∃ SK, (runL tela S (l.take k)).1 = SK := ⟨_, rfl⟩
   rw [hSK] at h2 HGW HS
   obtain ⟨acc, hac⟩ : ∃ acc, (runL tela S (l.take k)).2 = acc := ⟨_, rfl⟩
   rw [hac] at hlen HS ⊢
   obtain ⟨bs, hbs⟩ : ∃ bs, (tela SK l[k]).2 = bs := ⟨_, rfl⟩
   obtain ⟨SN, hSN⟩ : ∃ SN, (tela SK l[k]).1 = SN := ⟨_, rfl⟩
   rw [hbs] at h2 HS
   rw [hSN] at HS
   have HBS := hid hbs
   have HSN := hid hSN
   have hq : ¬ (9223372036854775807 < acc.length + bs.length) := by omega
   clear hSK hac hbs hSN
   have hcl : wr.cell? ⟨ga, o + k, none⟩ = some (.int .u64 (l[k] : Int)) := by
    have := hrd.range Ic_len k hkl 0 _ rfl
    rw [Nat.mul_one] at this
    exact this
   have HX : Hid (∀ fq W, Gk 96 p SK fq W → Calls Tryz.prog 93 #[.pointer (some ⟨p, 0, none⟩), .int .u64 (l[k] : Int)] W fun e w' => e = .returned (.string ⟨bs.toArray⟩) ∧ Gw 96 p W fq SN w') := hid fun fq W hg => by
    rw [← HBS.out, ← HSN.out]
    exact tela_any p fq SK l[k] W hg
   generalize l[k] = X at *
   clear hrd hne hgw hlen hlen2 h2
   go_wp2_with ((go_at_call 93; refine (HGW.out.call (fun fq hk => HX.out fq wr hk)).mono ?_; rintro e w3 ⟨rfl, hg3⟩; have HG3 := hid hg3; clear hg3))
   exact ⟨⟨k + 1, by omega, by go_num, by rw [HS.out, ← cat_mk], by rw [HS.out]; exact HG3.out⟩, by simp [intOf]; omega⟩
  ·
   obtain rfl : k = n := by omega
   clear hgw
   go_wp2_with fail
   go_ret
   refine ⟨by rw [HEND.out]; rfl, ?_⟩
   rw [← HEND.out]
   obtain ⟨fq, k1, k2, k3⟩ := HGW.out
   have hs1 := HB1.out.size
   exact ⟨fq, k1, ((Fr.of_below HB1.out).mono (fq := fp) (by simp)).trans k2 (fun b hb _ => hb), fun g hg => by
    rcases k3 g hg with h | h
    ·
     exact .inl h
    ·
     right; omega⟩
theorem each_tela (p : Nat) (fp : List Nat) (S : Lg) (s : ByteArray) (w : World) (hs : s.size ≤ 140737488355328) (h : Gk 96 p S fp w) :
  Calls Tryz.prog 91 #[.string s, .func (.func 92) #[] #[], .func (.func 93) #[.pointer (some ⟨p, 0, none⟩)] #[]] w fun e w' => e = .returned (.string ⟨(eachL tela S (takL 8 decI (sb s))).2.toArray⟩) ∧ Gw 96 p w fp (eachL tela S (takL 8 decI (sb s))).1 w' := by
 cases hb : (takL 8 decI (sb s)).2
 ·
  refine (each_tela_no p S s w hs hb).mono fun e w' hh => ⟨hh.1, ?_⟩
  unfold eachL
  rw [if_neg (by rw [hb]; decide)]
  exact (Gw.start h).below hh.2
 ·
  unfold eachL
  rw [if_pos hb]
  exact each_tela_yes p fp S s w hs h _ (Prod.ext rfl hb)
theorem each_telt_no (p : Nat) (S : Lg) (s : ByteArray) (w : World) (hs : s.size ≤ 140737488355328) (hno : (takL 8 decI (sb s)).2 = false) :
  Calls Tryz.prog 91 #[.string s, .func (.func 92) #[] #[], .func (.func 94) #[.pointer (some ⟨p, 0, none⟩)] #[]] w (SE w (eachL telt S (takL 8 decI (sb s))).2) := by
 have HT := hid (taki_list s w hs)
 have e : (eachL telt S (takL 8 decI (sb s))).2 = [1] := by
  unfold eachL
  rw [if_neg (by rw [hno]; decide)]
 rw [e]
 obtain ⟨⟨l, b⟩, hr⟩ : ∃ r, takL 8 decI (sb s) = r := ⟨_, rfl⟩
 rw [hr] at hno HT
 obtain rfl : b = false := hno
 have HT2 : Hid (Calls Tryz.prog 92 #[.string s] w fun e w' => ∃ A c, e = .returned (.tuple #[.slice A l.length c, .bool false]) ∧ Below w.heap.size w w') := hid (HT.out.mono fun e w' ⟨A, c, h1, _, _, h2, _⟩ => ⟨A, c, h1, h2⟩)
 clear e HT hr hs
 go_enter Tryz.func91, Tryz.ntmps91
 go_wp2_with (go_at_call 92; refine HT2.out.mono ?_; rintro e w1 ⟨A, c, rfl, hb1⟩)
 go_ret
 exact ⟨rfl, hb1⟩
theorem each_telt_yes (p : Nat) (fp : List Nat) (S : Lg) (s : ByteArray) (w : World) (hs : s.size ≤ 140737488355328) (h : Gk 96 p S fp w) (l : List Nat) (hr : takL 8 decI (sb s) = (l, true)) :
  Calls Tryz.prog 91 #[.string s, .func (.func 92) #[] #[], .func (.func 94) #[.pointer (some ⟨p, 0, none⟩)] #[]] w fun e w' => e = .returned (.string ⟨(runL telt S l).2.toArray⟩) ∧ Gw 96 p w fp (runL telt S l).1 w' := by
 have HT := hid (taki_list s w hs)
 have hle := takL_le 8 decI (sb s)
 have hok := takL_all (n := 8) (s := sb s) decI_ok
 rw [hr] at HT hle hok
 simp only at hle hok
 obtain ⟨n, hn⟩ : ∃ n, n = l.length := ⟨_, rfl⟩
 have HT2 : Hid (Calls Tryz.prog 92 #[.string s] w fun e w' => ∃ A c, e = .returned (.tuple #[.slice A n c, .bool true]) ∧ n ≤ c ∧ Rd w' w'.heap.size A (rows Ic l) ∧ Below w.heap.size w w' ∧ NewA w A) := hid (by rw [hn]; exact HT.out)
 rw [← hn] at hle
 have HN := hid hn
 have HOK := hid (fun k (hk : k < l.length) => hok l[k] (List.getElem_mem hk))
 have HLT := hid h.lt
 have HH := hid h
 have HEND : Hid (runL telt S (l.take n) = runL telt S l) := hid (by rw [List.take_of_length_le (by omega)])
 have HST := hid (fun k (hk : k < l.length) => runL_take telt S l k hk)
 have HLE := hid (fun k => runL_len telt 33 telt_len S (l.take k))
 have HTL : Hid (∀ k, (l.take k).length ≤ k) := hid fun k => List.length_take_le _ _
 clear HT hr hs hok hn h
 go_enter Tryz.func91, Tryz.ntmps91
 go_wp2_with (go_at_call 92; refine HT2.out.mono ?_; rintro e w1 ⟨A, c, rfl, hnc, hrd1, hb1, hnew⟩)
 have HRD := hid hrd1
 have HB1 := hid hb1
 have HNEW := hid hnew
 have HG1 := hid (Gw.start (HH.out.below hb1))
 clear hrd1 hb1 hnew HT2
 go_loopw [9, 22] (fun sv i wr => ∃ k : Nat, k ≤ n ∧ i = .int .i64 k ∧ sv = .string ⟨(runL telt S (l.take k)).2.toArray⟩ ∧ Gw 96 p w1 fp (runL telt S (l.take k)).1 wr) (fun _ i _ => n - (intOf i).toNat)
 case atStart => exact ⟨0, by omega, rfl, rfl, HG1.out⟩
 case round =>
  obtain ⟨k, hk, rfl, rfl, hgw⟩ := hrel
  have HGW := hid hgw
  have hlen := HLE.out k
  have hlen2 := HTL.out k
  by_cases hlt : k < n
  ·
   have hkl : k < l.length := by rw [← HN.out]; exact hlt
   have hrd := hgw.rdA HRD.out HNEW.out HLT.out
   have hne : rows Ic l ≠ [] := by
    intro e
    have := rows_len (C := Ic) Ic_len l
    rw [e] at this
    simp at this
    omega
   obtain ⟨ga, o, rfl, hga, hx⟩ := (show _ from hrd) hne
   clear hx
   have HS := hid (HST.out k hkl)
   have h2 := telt_len (runL telt S (l.take k)).1 l[k]
   obtain ⟨SK, hSK⟩ : ∃ SK, (runL telt S (l.take k)).1 = SK := ⟨_, rfl⟩
   rw [hSK] at h2 HGW HS
   obtain ⟨acc, hac⟩ : ∃ acc, (runL telt S (l.take k)).2 = acc := ⟨_, rfl⟩
   rw [hac] at hlen HS ⊢
   obtain ⟨bs, hbs⟩ : ∃ bs, (telt SK l[k]).2 = bs := ⟨_, rfl⟩
   obtain ⟨SN, hSN⟩ : ∃ SN, (telt SK l[k]).1 = SN := ⟨_, rfl⟩
   rw [hbs] at h2 HS
   rw [hSN] at HS
   have HBS := hid hbs
   have HSN := hid hSN
   have hq : ¬ (9223372036854775807 < acc.length + bs.length) := by omega
   clear hSK hac hbs hSN
   have hcl : wr.cell? ⟨ga, o + k, none⟩ = some (.int .u64 (l[k] : Int)) := by
    have := hrd.range Ic_len k hkl 0 _ rfl
    rw [Nat.mul_one] at this
    exact this
   have HX : Hid (∀ fq W, Gk 96 p SK fq W → Calls Tryz.prog 94 #[.pointer (some ⟨p, 0, none⟩), .int .u64 (l[k] : Int)] W fun e w' => e = .returned (.string ⟨bs.toArray⟩) ∧ Gw 96 p W fq SN w') := hid fun fq W hg => by
    rw [← HBS.out, ← HSN.out]
    exact telt_any p fq SK l[k] W hg
   generalize l[k] = X at *
   clear hrd hne hgw hlen hlen2 h2
   go_wp2_with ((go_at_call 94; refine (HGW.out.call (fun fq hk => HX.out fq wr hk)).mono ?_; rintro e w3 ⟨rfl, hg3⟩; have HG3 := hid hg3; clear hg3))
   exact ⟨⟨k + 1, by omega, by go_num, by rw [HS.out, ← cat_mk], by rw [HS.out]; exact HG3.out⟩, by simp [intOf]; omega⟩
  ·
   obtain rfl : k = n := by omega
   clear hgw
   go_wp2_with fail
   go_ret
   refine ⟨by rw [HEND.out]; rfl, ?_⟩
   rw [← HEND.out]
   obtain ⟨fq, k1, k2, k3⟩ := HGW.out
   have hs1 := HB1.out.size
   exact ⟨fq, k1, ((Fr.of_below HB1.out).mono (fq := fp) (by simp)).trans k2 (fun b hb _ => hb), fun g hg => by
    rcases k3 g hg with h | h
    ·
     exact .inl h
    ·
     right; omega⟩
theorem each_telt (p : Nat) (fp : List Nat) (S : Lg) (s : ByteArray) (w : World) (hs : s.size ≤ 140737488355328) (h : Gk 96 p S fp w) :
  Calls Tryz.prog 91 #[.string s, .func (.func 92) #[] #[], .func (.func 94) #[.pointer (some ⟨p, 0, none⟩)] #[]] w fun e w' => e = .returned (.string ⟨(eachL telt S (takL 8 decI (sb s))).2.toArray⟩) ∧ Gw 96 p w fp (eachL telt S (takL 8 decI (sb s))).1 w' := by
 cases hb : (takL 8 decI (sb s)).2
 ·
  refine (each_telt_no p S s w hs hb).mono fun e w' hh => ⟨hh.1, ?_⟩
  unfold eachL
  rw [if_neg (by rw [hb]; decide)]
  exact (Gw.start h).below hh.2
 ·
  unfold eachL
  rw [if_pos hb]
  exact each_telt_yes p fp S s w hs h _ (Prod.ext rfl hb)
section
variable (p : Nat) (fp : List Nat) (S : Lg) (s : ByteArray) (w : World) (hs : s.size ≤ 140737488355328) (h : Gk 96 p S fp w)
include hs h in
theorem do_2 : Calls Tryz.prog 55 #[.pointer (some ⟨p, 0, none⟩), .int .i64 2, .string s] w fun e w' => e = .returned (.string ⟨(eachL mka S (takL 9 decA (sb s))).2.toArray⟩) ∧ Gw 96 p w fp (eachL mka S (takL 9 decA (sb s))).1 w' := by
 have HE := hid (each_mka p fp S s w hs h)
 generalize eachL mka S (takL 9 decA (sb s)) = r at *
 obtain ⟨SN, bs⟩ := r
 clear hs h
 go_enter Tryz.func55, Tryz.ntmps55
 go_wp2_with (go_at_call 85; refine HE.out.mono ?_; rintro e w1 ⟨rfl, hg1⟩)
 go_ret
 exact ⟨rfl, hg1⟩
include hs h in
theorem do_3 : Calls Tryz.prog 55 #[.pointer (some ⟨p, 0, none⟩), .int .i64 3, .string s] w fun e w' => e = .returned (.string ⟨(eachL mkt S (takL 32 decT (sb s))).2.toArray⟩) ∧ Gw 96 p w fp (eachL mkt S (takL 32 decT (sb s))).1 w' := by
 have HE := hid (each_mkt p fp S s w hs h)
 generalize eachL mkt S (takL 32 decT (sb s)) = r at *
 obtain ⟨SN, bs⟩ := r
 clear hs h
 go_enter Tryz.func55, Tryz.ntmps55
 go_wp2_with (go_at_call 88; refine HE.out.mono ?_; rintro e w1 ⟨rfl, hg1⟩)
 go_ret
 exact ⟨rfl, hg1⟩
include hs h in
theorem do_4 : Calls Tryz.prog 55 #[.pointer (some ⟨p, 0, none⟩), .int .i64 4, .string s] w fun e w' => e = .returned (.string ⟨(eachL tela S (takL 8 decI (sb s))).2.toArray⟩) ∧ Gw 96 p w fp (eachL tela S (takL 8 decI (sb s))).1 w' := by
 have HE := hid (each_tela p fp S s w hs h)
 generalize eachL tela S (takL 8 decI (sb s)) = r at *
 obtain ⟨SN, bs⟩ := r
 clear hs h
 go_enter Tryz.func55, Tryz.ntmps55
 go_wp2_with (go_at_call 91; refine HE.out.mono ?_; rintro e w1 ⟨rfl, hg1⟩)
 go_ret
 exact ⟨rfl, hg1⟩
include hs h in
theorem do_5 : Calls Tryz.prog 55 #[.pointer (some ⟨p, 0, none⟩), .int .i64 5, .string s] w fun e w' => e = .returned (.string ⟨(eachL telt S (takL 8 decI (sb s))).2.toArray⟩) ∧ Gw 96 p w fp (eachL telt S (takL 8 decI (sb s))).1 w' := by
 have HE := hid (each_telt p fp S s w hs h)
 generalize eachL telt S (takL 8 decI (sb s)) = r at *
 obtain ⟨SN, bs⟩ := r
 clear hs h
 go_enter Tryz.func55, Tryz.ntmps55
 go_wp2_with (go_at_call 91; refine HE.out.mono ?_; rintro e w1 ⟨rfl, hg1⟩)
 go_ret
 exact ⟨rfl, hg1⟩
include h in
theorem do_6 (op : Int) (h2 : ¬ op = 2) (h3 : ¬ op = 3) (h4 : ¬ op = 4) (h5 : ¬ op = 5) : Calls Tryz.prog 55 #[.pointer (some ⟨p, 0, none⟩), .int .i64 op, .string s] w fun e w' => e = .returned (.string ⟨[1].toArray⟩) ∧ Gw 96 p w fp S w' := by
 have HG := hid (Gw.start h)
 have e2 : (op == 2) = false := beq_eq_false_iff_ne.2 h2
 have e3 : (op == 3) = false := beq_eq_false_iff_ne.2 h3
 have e4 : (op == 4) = false := beq_eq_false_iff_ne.2 h4
 have e5 : (op == 5) = false := beq_eq_false_iff_ne.2 h5
 clear h h2 h3 h4 h5
 go_enter Tryz.func55, Tryz.ntmps55
 go_wp2_with fail
 go_ret
 exact ⟨rfl, HG.out⟩
include hs h in
theorem do_any (op : Int) : Calls Tryz.prog 55 #[.pointer (some ⟨p, 0, none⟩), .int .i64 op, .string s] w fun e w' => e = .returned (.string ⟨(S.doo op (sb s)).2.toArray⟩) ∧ Gw 96 p w fp (S.doo op (sb s)).1 w' := by
 unfold Lg.doo
 by_cases h2 : op = 2
 ·
  rw [if_pos h2]; subst h2; exact do_2 p fp S s w hs h
 rw [if_neg h2]
 by_cases h3 : op = 3
 ·
  rw [if_pos h3]; subst h3; exact do_3 p fp S s w hs h
 rw [if_neg h3]
 by_cases h4 : op = 4
 ·
  rw [if_pos h4]; subst h4; exact do_4 p fp S s w hs h
 rw [if_neg h4]
 by_cases h5 : op = 5
 ·
  rw [if_pos h5]; subst h5; exact do_5 p fp S s w hs h
 rw [if_neg h5]
 exact do_6 p fp S s w h op h2 h3 h4 h5
end
/-- a new ledger, all of it in new memory -/
def NG (X : Nat) (w : World) (S : Lg) (v : Nat → Value) (e : Ending) (w' : World) : Prop := ∃ p fp, e = .returned (v p) ∧ Gk X p S fp w' ∧ (∀ b ∈ fp, w.heap.size ≤ b) ∧ Below w.heap.size w w'
theorem nil_has {w : World} {X p : Nat} (hr : Row w p X [.slice none 0 0, .slice none 0 0]) (ty : X ≠ 80 ∧ X ≠ 82) : HasG w X p (.slice none 0 0) (.slice none 0 0) Lg.nil :=
 ⟨hr, World.ownsRow_nil _ _ _ _, World.ownsRow_nil _ _ _ _, Lg.nil_wf, ty⟩
theorem new_any (w : World) : Calls Tryz.prog 27 #[] w (NG 96 w Lg.nil (fun p => .pointer (some ⟨p, 0, none⟩))) := by
 go_enter Tryz.func27, Tryz.ntmps27
 go_wp2_with fail
 go_ret
 refine ⟨w.heap.size, _, rfl, ⟨_, _, rfl, nil_has (Row.new w _ #[.slice none 0 0, .slice none 0 0]) (by decide)⟩, ?_, (Below.refl _ _).alloc (Nat.le_refl _) _⟩
 intro b hb
 simp [fpG, Value.ownBlock] at hb
 omega
section
variable {p : Nat} {fp : List Nat} {S : Lg} {w : World} (h : Gk 96 p S fp w)
include h
theorem pack_gk : Calls Tryz.prog 44 #[.pointer (some ⟨p, 0, none⟩)] w (SE w S.pack) := by
 obtain ⟨va, vt, rfl, h⟩ := h
 exact pack_any p va vt S w h
end
section
variable {w0 w w' : World} {X p : Nat} {S S' : Lg} {A : Option Addr} {xs : List Value}
end
/-- so many can be taken -/
def okT (most size : Nat) (s : List UInt8) : Prop := 1 ≤ s.length ∧ num0 s ≤ most ∧ 1 + size * num0 s ≤ s.length
instance (most size : Nat) (s : List UInt8) : Decidable (okT most size s) := by unfold okT; infer_instance
def rest1 (size : Nat) (s : List UInt8) : List UInt8 := s.drop (1 + size * num0 s)
/-- bytes are a ledger's -/
def okU (s : List UInt8) : Prop := okT 8 25 s ∧ okT 16 32 (rest1 25 s) ∧ rest1 32 (rest1 25 s) = []
instance (s : List UInt8) : Decidable (okU s) := by unfold okU; infer_instance
/-! ### what was packed is unpacked -/
theorem pack_len (S : Lg) (h : S.WF) : S.pack.length = 2 + 25 * S.A.length + 32 * S.T.length := by
 have k1 : (S.A.flatMap acB).length = 25 * S.A.length := by
  have key : ∀ l : List Ac, (∀ x ∈ l, x.flat) → (l.flatMap acB).length = 25 * l.length := by
   intro l
   induction l with
   | nil => intro _; rfl
   | cons x r ih =>
    intro hl
    rw [List.flatMap_cons, List.length_append, ih (fun y hy => hl y (by simp [hy])), acB_len x (hl x (by simp)), List.length_cons]
    omega
  exact key _ h.oa
 have k2 : (S.T.flatMap trL).length = 32 * S.T.length := by
  have key : ∀ l : List Tr, (l.flatMap trL).length = 32 * l.length := by
   intro l
   induction l with
   | nil => rfl
   | cons x r ih =>
    rw [List.flatMap_cons, List.length_append, ih, trL_len x, List.length_cons]
    omega
  exact key _
 simp only [Lg.pack, layL, List.length_append, List.length_cons, k1, k2]
 omega
theorem doo_len (S : Lg) (op : Int) (s : List UInt8) : (S.doo op s).2.length ≤ 200 := by
 have key : ∀ {α : Type} (f : Lg → α → Lg × List UInt8) (r : List α × Bool), (∀ S x, (f S x).2.length ≤ 33) → r.1.length ≤ 4 → (eachL f S r).2.length ≤ 200 := by
  intro α f r hf hr
  unfold eachL
  split
  ·
   have h1 := runL_len f 33 hf S r.1
   have h2 : r.1.length * 33 ≤ 4 * 33 := Nat.mul_le_mul_right _ hr
   omega
  ·
   simp
 unfold Lg.doo
 split
 ·
  exact key mka _ mka_len (takL_le _ _ _)
 split
 ·
  exact key mkt _ mkt_len (takL_le _ _ _)
 split
 ·
  exact key tela _ tela_len (takL_le _ _ _)
 split
 ·
  exact key telt _ telt_len (takL_le _ _ _)
 ·
  simp
theorem idxa_no {S : Lg} {id : Nat} (h : ¬ S.fa id < S.A.length) : idxa S.A id = -1 := by unfold idxa; rw [if_neg (by exact h)]
theorem idxa_yes {S : Lg} {id : Nat} (h : S.fa id < S.A.length) : idxa S.A id = (S.fa id : Int) := by unfold idxa; rw [if_pos (by exact h)]; rfl
theorem ra_any (p : Nat) (va vt : Value) (S : Lg) (id : Nat) (w : World) (h : HasG w 57 p va vt S) :
  Calls Tryz.prog 136 #[.pointer (some ⟨p, 0, none⟩), .int .u64 (id : Int)] w fun e w' => e = .returned (.int .i64 (idxa S.A id)) ∧ w = w' := by
 obtain ⟨A, c, e, hnc, hrd⟩ := h.va_shape
 have hc0 := h.c0
 rw [e] at hc0
 have hbig := h.wf.la
 have HN : Hid (∀ n, n = S.A.length → n = S.A.length) := hid fun _ h => h
 obtain ⟨n, hn⟩ : ∃ n, S.A.length = n := ⟨_, rfl⟩
 rw [hn] at hc0 hnc hbig
 by_cases h0 : n = 0
 ·
  subst h0
  rw [idxa_no (by omega)]
  clear h e hrd hn HN
  go_enter Tryz.func136, Tryz.ntmps136
  go_wp2_with fail
  go_loop [5] (fun i => i = .int .i64 0) (fun _ => 0)
  case atStart => rfl
  case round =>
   obtain rfl := hrel
   go_wp2_with fail
   go_ret
   exact ⟨rfl, rfl⟩
 obtain ⟨g, o, rfl⟩ := shape_of hrd Ac.len (by decide) (by omega)
 have HR := hid hrd
 have HNL := hid hn
 have HF : Hid (∀ k, k < S.A.length → at_ Ac.id id S.A = k → idxa S.A id = (k : Int)) := hid fun k hk e => by
  unfold idxa
  rw [e, if_pos hk]
 have HNF : Hid (at_ Ac.id id S.A = S.A.length → idxa S.A id = -1) := hid fun e => by
  unfold idxa
  rw [if_neg (by omega)]
 generalize idxa S.A id = r at *
 clear h e hrd hn HN
 go_enter Tryz.func136, Tryz.ntmps136
 go_wp2_with fail
 go_loop [5] (fun i => ∃ k : Nat, k ≤ n ∧ i = .int .i64 (k : Int) ∧ Hid (k ≤ at_ Ac.id id S.A)) (fun i => n - (intOf i).toNat)
 case atStart => exact ⟨0, by omega, rfl, hid (Nat.zero_le _)⟩
 case round =>
  obtain ⟨k, hk, rfl, HK⟩ := hrel
  by_cases hlt : k < n
  ·
   have hkl : k < S.A.length := by rw [HNL.out]; exact hlt
   have hcl : w.cell? ⟨g, o + k * 4, none⟩ = some (.int .u64 (Ac.id (S.A[k]'hkl) : Int)) := range_of HR.out Ac.len hkl 0 _ rfl
   have hi0 : (k : Int) < (n : Int) := by omega
   by_cases he : Ac.id (S.A[k]'hkl) = id
   ·
    have HAT := hid (HF.out k hkl (at_this Ac.id id S.A k HK.out hkl he))
    have ht := eq_nat he
    generalize Ac.id (S.A[k]'hkl) = kid at *
    clear he
    go_wp2_with fail
    go_ret
    exact ⟨by rw [HAT.out]; rfl, rfl⟩
   ·
    have HAT : Hid (k + 1 ≤ at_ Ac.id id S.A) := hid (by
     rcases Nat.lt_or_ge k (at_ Ac.id id S.A) with h | h
     ·
      omega
     ·
      have e : at_ Ac.id id S.A = k := Nat.le_antisymm h HK.out
      have h2 := at_here Ac.id id S.A (by rw [e]; exact hkl)
      simp only [e] at h2
      exact absurd h2 he)
    have ht := ne_nat he
    generalize Ac.id (S.A[k]'hkl) = kid at *
    clear he
    go_wp2_with fail
    exact ⟨⟨k + 1, by omega, by go_num, hid HAT.out⟩, by simp [intOf]; omega⟩
  ·
   obtain rfl : k = n := by omega
   have HAT := hid (HNF.out (by have := HK.out; have := at_le Ac.id id S.A; have := HNL.out; omega))
   go_wp2_with fail
   go_ret
   exact ⟨by rw [HAT.out]; rfl, rfl⟩
theorem idxt_no {S : Lg} {id : Nat} (h : ¬ S.ft id < S.T.length) : idxt S.T id = -1 := by unfold idxt; rw [if_neg (by exact h)]
theorem idxt_yes {S : Lg} {id : Nat} (h : S.ft id < S.T.length) : idxt S.T id = (S.ft id : Int) := by unfold idxt; rw [if_pos (by exact h)]; rfl
theorem rt_any (p : Nat) (va vt : Value) (S : Lg) (id : Nat) (w : World) (h : HasG w 57 p va vt S) :
  Calls Tryz.prog 137 #[.pointer (some ⟨p, 0, none⟩), .int .u64 (id : Int)] w fun e w' => e = .returned (.int .i64 (idxt S.T id)) ∧ w = w' := by
 obtain ⟨A, c, e, hnc, hrd⟩ := h.vt_shape
 have hc0 := h.c1
 rw [e] at hc0
 have hbig := h.wf.lt
 have HN : Hid (∀ n, n = S.T.length → n = S.T.length) := hid fun _ h => h
 obtain ⟨n, hn⟩ : ∃ n, S.T.length = n := ⟨_, rfl⟩
 rw [hn] at hc0 hnc hbig
 by_cases h0 : n = 0
 ·
  subst h0
  rw [idxt_no (by omega)]
  clear h e hrd hn HN
  go_enter Tryz.func137, Tryz.ntmps137
  go_wp2_with fail
  go_loop [5] (fun i => i = .int .i64 0) (fun _ => 0)
  case atStart => rfl
  case round =>
   obtain rfl := hrel
   go_wp2_with fail
   go_ret
   exact ⟨rfl, rfl⟩
 obtain ⟨g, o, rfl⟩ := shape_of hrd Tr.len (by decide) (by omega)
 have HR := hid hrd
 have HNL := hid hn
 have HF : Hid (∀ k, k < S.T.length → at_ Tr.a id S.T = k → idxt S.T id = (k : Int)) := hid fun k hk e => by
  unfold idxt
  rw [e, if_pos hk]
 have HNF : Hid (at_ Tr.a id S.T = S.T.length → idxt S.T id = -1) := hid fun e => by
  unfold idxt
  rw [if_neg (by omega)]
 generalize idxt S.T id = r at *
 clear h e hrd hn HN
 go_enter Tryz.func137, Tryz.ntmps137
 go_wp2_with fail
 go_loop [5] (fun i => ∃ k : Nat, k ≤ n ∧ i = .int .i64 (k : Int) ∧ Hid (k ≤ at_ Tr.a id S.T)) (fun i => n - (intOf i).toNat)
 case atStart => exact ⟨0, by omega, rfl, hid (Nat.zero_le _)⟩
 case round =>
  obtain ⟨k, hk, rfl, HK⟩ := hrel
  by_cases hlt : k < n
  ·
   have hkl : k < S.T.length := by rw [HNL.out]; exact hlt
   have hcl : w.cell? ⟨g, o + k * 4, none⟩ = some (.int .u64 (Tr.a (S.T[k]'hkl) : Int)) := range_of HR.out Tr.len hkl 0 _ rfl
   have hi0 : (k : Int) < (n : Int) := by omega
   by_cases he : Tr.a (S.T[k]'hkl) = id
   ·
    have HAT := hid (HF.out k hkl (at_this Tr.a id S.T k HK.out hkl he))
    have ht := eq_nat he
    generalize Tr.a (S.T[k]'hkl) = kid at *
    clear he
    go_wp2_with fail
    go_ret
    exact ⟨by rw [HAT.out]; rfl, rfl⟩
   ·
    have HAT : Hid (k + 1 ≤ at_ Tr.a id S.T) := hid (by
     rcases Nat.lt_or_ge k (at_ Tr.a id S.T) with h | h
     ·
      omega
     ·
      have e : at_ Tr.a id S.T = k := Nat.le_antisymm h HK.out
      have h2 := at_here Tr.a id S.T (by rw [e]; exact hkl)
      simp only [e] at h2
      exact absurd h2 he)
    have ht := ne_nat he
    generalize Tr.a (S.T[k]'hkl) = kid at *
    clear he
    go_wp2_with fail
    exact ⟨⟨k + 1, by omega, by go_num, hid HAT.out⟩, by simp [intOf]; omega⟩
  ·
   obtain rfl : k = n := by omega
   have HAT := hid (HNF.out (by have := HK.out; have := at_le Tr.a id S.T; have := HNL.out; omega))
   go_wp2_with fail
   go_ret
   exact ⟨by rw [HAT.out]; rfl, rfl⟩
section
variable (p : Nat) (va vt : Value) (S : Lg) (id : Nat) (fl : Int) (w : World) (h : HasG w 57 p va vt S)
theorem ropen_1 : Calls Tryz.prog 99 #[.pointer (some ⟨p, 0, none⟩), .agg #[.int .u64 ((0 : Nat) : Int), .int .i64 fl, .int .u64 0, .int .u64 0]] w (VE w (.int .i64 1)) := by
 go_enter Tryz.func99, Tryz.ntmps99
 go_wp2_with fail
 go_ret
 exact ⟨rfl, (Below.refl _ _).alloc (Nat.le_refl _) _⟩
include h in
theorem ropen_2 (h0 : id ≠ 0) (h1 : S.fa id < S.A.length) : Calls Tryz.prog 99 #[.pointer (some ⟨p, 0, none⟩), .agg #[.int .u64 (id : Int), .int .i64 fl, .int .u64 0, .int .u64 0]] w (VE w (.int .i64 2)) := by
 have HRW := hid (show Row (w.alloc (.cells #[.int .u64 (id : Int), .int .i64 fl, .int .u64 0, .int .u64 0] 80)) w.heap.size 80 [.int .u64 (id : Int), .int .i64 fl, .int .u64 0, .int .u64 0] from Row.new _ _ _)
 have HH := hid (fun W (hW : Below w.heap.size w W) => ra_any p va vt S id W (h.below hW))
 have hz : ((id : Int) == 0) = false := ne_nat h0
 rw [idxa_yes h1] at HH
 clear h h0 h1
 generalize S.fa id = k at *
 go_enter Tryz.func99, Tryz.ntmps99
 go_wp2_with (go_at_call 136; refine (HH.out _ ((Below.refl _ _).alloc (Nat.le_refl _) _)).mono ?_; rintro e w2 ⟨rfl, rfl⟩)
 go_ret
 exact ⟨rfl, (Below.refl _ _).alloc (Nat.le_refl _) _⟩
include h in
theorem ropen_3 (h0 : id ≠ 0) (h1 : ¬ S.fa id < S.A.length) (h2 : 1 < fl) : Calls Tryz.prog 99 #[.pointer (some ⟨p, 0, none⟩), .agg #[.int .u64 (id : Int), .int .i64 fl, .int .u64 0, .int .u64 0]] w (VE w (.int .i64 3)) := by
 have HRW := hid (show Row (w.alloc (.cells #[.int .u64 (id : Int), .int .i64 fl, .int .u64 0, .int .u64 0] 80)) w.heap.size 80 [.int .u64 (id : Int), .int .i64 fl, .int .u64 0, .int .u64 0] from Row.new _ _ _)
 have HH := hid (fun W (hW : Below w.heap.size w W) => ra_any p va vt S id W (h.below hW))
 have hz : ((id : Int) == 0) = false := ne_nat h0
 rw [idxa_no h1] at HH
 clear h h0 h1
 go_enter Tryz.func99, Tryz.ntmps99
 go_wp2_with (go_at_call 136; refine (HH.out _ ((Below.refl _ _).alloc (Nat.le_refl _) _)).mono ?_; rintro e w2 ⟨rfl, rfl⟩)
 go_ret
 exact ⟨rfl, (Below.refl _ _).alloc (Nat.le_refl _) _⟩
include h in
theorem ropen_4 (h0 : id ≠ 0) (h1 : ¬ S.fa id < S.A.length) (h2 : ¬ 1 < fl) (h3 : S.A.length = 8) : Calls Tryz.prog 99 #[.pointer (some ⟨p, 0, none⟩), .agg #[.int .u64 (id : Int), .int .i64 fl, .int .u64 0, .int .u64 0]] w (VE w (.int .i64 10)) := by
 have HRW := hid (show Row (w.alloc (.cells #[.int .u64 (id : Int), .int .i64 fl, .int .u64 0, .int .u64 0] 80)) w.heap.size 80 [.int .u64 (id : Int), .int .i64 fl, .int .u64 0, .int .u64 0] from Row.new _ _ _)
 have HH := hid (fun W (hW : Below w.heap.size w W) => ra_any p va vt S id W (h.below hW))
 have hz : ((id : Int) == 0) = false := ne_nat h0
 rw [idxa_no h1] at HH
 obtain ⟨A, c, e, hnc, -⟩ := h.va_shape
 have hc0 := h.c0
 have hlt := h.box.lt
 rw [e, h3] at hc0
 clear h h0 h1 e h3 hnc
 go_enter Tryz.func99, Tryz.ntmps99
 go_wp2_with (go_at_call 136; refine (HH.out _ ((Below.refl _ _).alloc (Nat.le_refl _) _)).mono ?_; rintro e w2 ⟨rfl, rfl⟩)
 go_ret
 exact ⟨rfl, (Below.refl _ _).alloc (Nat.le_refl _) _⟩
include h in
theorem ropen_0 (h0 : id ≠ 0) (h1 : ¬ S.fa id < S.A.length) (h2 : ¬ 1 < fl) (h8 : S.A.length + 1 ≤ 8) (hx : (⟨id, fl, 0, 0⟩ : Ac).flat) :
  Calls Tryz.prog 99 #[.pointer (some ⟨p, 0, none⟩), .agg #[.int .u64 (id : Int), .int .i64 fl, .int .u64 0, .int .u64 0]] w fun e w' => e = .returned (.int .i64 0) ∧ Gw 57 p w (fpG p va vt) ⟨S.A ++ [⟨id, fl, 0, 0⟩], S.T⟩ w' := by
 have HRW := hid (show Row (w.alloc (.cells #[.int .u64 (id : Int), .int .i64 fl, .int .u64 0, .int .u64 0] 80)) w.heap.size 80 [.int .u64 (id : Int), .int .i64 fl, .int .u64 0, .int .u64 0] from Row.new _ _ _)
 have HH := hid (fun W (hW : Below w.heap.size w W) => ra_any p va vt S id W (h.below hW))
 have hz : ((id : Int) == 0) = false := ne_nat h0
 rw [idxa_no h1] at HH
 have HG := hid h
 obtain ⟨A, c, e, hnc, -⟩ := h.va_shape
 have hc0 := h.c0
 have hlt := h.box.lt
 obtain ⟨n, hn⟩ : ∃ n, S.A.length = n := ⟨_, rfl⟩
 have HCN := hid hn
 have hc0' := hc0
 rw [e, hn] at hc0
 have hn8 : S.A.length ≤ 8 := by omega
 have hn7 : ¬ (8 : Int) ≤ (n : Int) := by omega
 have HLW := hid h.lt
 have HROOM := hid h8
 have HXN0 := hid hx
 have cs_one : ∀ u ∈ ([.int .u64 (id : Int), .int .i64 fl, .int .u64 0, .int .u64 0] : List Value), u.oneCell' = true := cs_one4 rfl rfl rfl rfl
 obtain ⟨XN, hXN⟩ : ∃ XN : Ac, XN = ⟨id, fl, 0, 0⟩ := ⟨_, rfl⟩
 have HXN : Hid XN.flat := hid (by rw [hXN]; exact hx)
 rw [← hXN]
 have HEX : Hid (XN.cells = [.int .u64 (id : Int), .int .i64 fl, .int .u64 0, .int .u64 0]) := hid (by rw [hXN]; rfl)
 have HEV := hid e
 clear h h0 h1 h8 hx hXN hn HXN0 hc0' e
 go_enter Tryz.func99, Tryz.ntmps99
 go_wp2_with (go_at_call 136; refine (HH.out _ ((Below.refl _ _).alloc (Nat.le_refl _) _)).mono ?_; rintro e w2 ⟨rfl, rfl⟩)
 have HB0 : Hid (Below w.heap.size w (w.alloc (.cells #[.int .u64 (id : Int), .int .i64 fl, .int .u64 0, .int .u64 0] 80))) := hid ((Below.refl _ _).alloc (Nat.le_refl _) _)
 have HRX := hid HRW.out
 generalize (w.alloc (.cells #[.int .u64 (id : Int), .int .i64 fl, .int .u64 0, .int .u64 0] 80)) = w3 at *
 have h3 := hid (HG.out.below HB0.out)
 have HRG : Hid (w3.drew.rangeAt w.heap.size 0 [.int .u64 (id : Int), .int .i64 fl, .int .u64 0, .int .u64 0]) := hid fun j v hv => by rw [Nat.zero_add]; exact HRX.out.at_ j v hv
 have HNE : Hid (∀ b ∈ fpG p va vt, b ≠ w.heap.size) := hid fun b hb => by have := HLW.out b hb; omega
 have HNEP : Hid (p ≠ w.heap.size) := hid (HNE.out p (by simp [fpG]))
 have hc3 := h3.out.c0
 have HC := hid hc3
 have HLT := hid h3.out.box.lt
 clear hc0 hlt HH
 have HNP : Hid ((⟨p, 0, none⟩ : Addr).block ≠ w.heap.size) := HNEP
 refine wp_region_held_drew (S := fun w' => w'.rangeAt w.heap.size 0 [.int .u64 (id : Int), .int .i64 fl, .int .u64 0, .int .u64 0]) (by kernel_rfl) HRG.out (fun hH => ?_)
 refine tk_ (i := 0) (v := .pointer (some ⟨p, 0, none⟩)) rfl (Or.inl ⟨by rfl, fun w' hw' => by clear hw' ; go_simp⟩) hH ?_
 simp only [Act.put]
 refine tk_ (i := 1) (v := .pointer (some ⟨p, 0, none⟩)) rfl (Or.inl ⟨by rfl, fun w' hw' => by clear hw' ; go_simp⟩) hH ?_
 simp only [Act.put]
 refine tk_ (i := 2) (v := .pointer (some ⟨p, 0, none⟩)) rfl (Or.inl ⟨by rfl, fun w' hw' => by clear hw' ; go_simp⟩) hH ?_
 simp only [Act.put]
 refine tk_ (i := 3) (v := .pointer (some ⟨p, 0, none⟩)) rfl (Or.inl ⟨by rfl, fun w' hw' => by clear hw' ; go_simp⟩) hH ?_
 simp only [Act.put]
 refine tk_ (i := 5) (v := .pointer (some ⟨w.heap.size, 0, none⟩)) rfl (Or.inl ⟨by rfl, fun w' hw' => by clear hw' ; go_simp⟩) hH ?_
 simp only [Act.put]
 refine tk_ (i := 6) (v := .int .u64 (id : Int)) rfl (Or.inl ⟨by rfl, fun w' hw' => by have h := hw' 0 _ rfl; go_simp⟩) hH ?_
 simp only [Act.put]
 refine tk_ (i := 7) (v := .pointer (some ⟨w.heap.size, 1, none⟩)) rfl (Or.inl ⟨by rfl, fun w' hw' => by clear hw' ; go_simp⟩) hH ?_
 simp only [Act.put]
 refine tk_ (i := 8) (v := .int .i64 fl) rfl (Or.inl ⟨by rfl, fun w' hw' => by have h := hw' 1 _ rfl; go_simp⟩) hH ?_
 simp only [Act.put]
 refine tk_ (i := 9) (v := .agg ([.int .u64 (id : Int), .int .i64 fl, .int .u64 0, .int .u64 0]).toArray) rfl (Or.inl ⟨by rfl, fun w' hw' => by clear hw' ; go_simp⟩) hH ?_
 simp only [Act.put]
 obtain ⟨i0, hi, hz0, hz1, hz2⟩ := info_parts acInfo
 have hnews : Hid (∀ j u, ([.int .u64 (id : Int), .int .i64 fl, .int .u64 0, .int .u64 0])[j]? = some u → ((w3).drew.alloc (.cells ([.int .u64 (id : Int), .int .i64 fl, .int .u64 0, .int .u64 0]).toArray 80)).cell? ((⟨(w3).heap.size, 0, none⟩ : Addr).add j) = some u) := hid (by
  have := World.news_of_block (heap_alloc_new (w3).drew (.cells ([.int .u64 (id : Int), .int .i64 fl, .int .u64 0, .int .u64 0]).toArray 80))
  simpa using this)
 refine wpAnyH_ready (rs := [4, 10]) (by kernel_rfl) (by simp) ?_
 refine AllReadyH.cons rfl (fun K hK => ?_) (AllReadyH.cons rfl (fun K hK => ?_) AllReadyH.nil)
 ·
  go_simp
  refine hK.out _ _ hH (fun hH => ?_)
  clear hK K
  refine rd1 (i := 10) (by kernel_rfl) rfl (fun K hK => ?_)
  rw [if_pos (by rfl)]
  refine wp_slice1 53 80 (.tmp 31) rfl i0 _ 4 Tryz.underlying53 hi hz0 hz1 (by decide) (by decide) [.int .u64 (id : Int), .int .i64 fl, .int .u64 0, .int .u64 0] (by kernel_rfl) rfl ?_
  simp only [Act.put]
  refine hK.out _ _ (World.rangeAt_alloc hH _) (fun hH => ?_)
  clear hK K
  refine rd1 (i := 11) (by kernel_rfl) rfl (fun K hK => ?_)
  refine step_append_lies _ rfl (.tmp 26) (.tmp 32) 53 rfl 0 80 i0 _ 4 32 Tryz.underlying53 hi hz0 hz1 hz2 rfl (by decide) va S.A.length _ (by kernel_rfl) ((h3.out.accs.drew).alloc _) ⟨w3.heap.size, 0, none⟩ 1 1 [.int .u64 (id : Int), .int .i64 fl, .int .u64 0, .int .u64 0] (by kernel_rfl) rfl hnews.out cs_one (by decide) (le_maxLen (by omega)) (by omega) (Nat.zero_le _) (w3.heap.size + 1) (by simp) ?_
  intro g cap w4 ho4 hg4 hat hlt4
  have HAP := hid (app_factsa h3.out HRX.out HNE.out hg4)
  have hH4 := HAP.out.2.2
  simp only [Act.put]
  refine hK.out _ _ hH4 (fun hH => ?_)
  clear hK K hH4
  refine tk_ (i := 12) (v := .pointer (some ⟨p, 0, none⟩)) rfl (Or.inl ⟨by rfl, fun w' hw' => by clear hw' ; go_simp⟩) hH ?_
  simp only [Act.put]
  refine tk_ (i := 13) (v := .pointer (some ⟨p, 0, none⟩)) rfl (Or.inl ⟨by rfl, fun w' hw' => by clear hw' ; go_simp⟩) hH ?_
  simp only [Act.put]
  have c4 := HAP.out.1.at_ 0 _ rfl
  have f4 := HAP.out.1.frozen 0
  have HO4 := hid ho4
  have HAT := hid hat
  clear ho4 hat hg4
  refine rd1 (i := 14) (by kernel_rfl) rfl (fun K hK => ?_)
  go_simp
  refine hK.out _ _ (fun j v hv => (World.cell?_setCell_far _ _ _ _ HNP.out).trans (hH j v hv)) (fun hH => ?_)
  clear hK K hH
  refine wpAnyH_done (by kernel_rfl) ?_ _
  try simp only [Act.put]
  have HM := hid (h3.out.moreA (X := 57) (x := XN) HAP.out.2.1 (by have h := HO4.out; rw [← HEX.out] at h; exact h) (vend HAT.out) HROOM.out HXN.out)
  clear c4 f4
  generalize (w4.setCell ⟨p, 0, none⟩ (.slice (some ⟨g, 0, none⟩) (S.A.length + 1) cap)) = w5 at *
  go_wp2_with fail
  go_ret
  refine ⟨rfl, ⟨fpG p (.slice (some ⟨g, 0, none⟩) (S.A.length + 1) cap) vt, ⟨_, _, rfl, HM.out.1⟩, ?_, ?_⟩⟩
  ·
   exact ((Fr.of_below HB0.out).mono (fq := fpG p va vt) (by simp)).trans HM.out.2.1 (by intro b hb _; exact hb)
  ·
   intro b hb
   rcases HM.out.2.2 b hb with h | h
   ·
    exact .inl h
   ·
    have := HB0.out.size
    right; omega
 ·
  rw [if_pos (by rfl)]
  refine wp_slice1 53 80 (.tmp 31) rfl i0 _ 4 Tryz.underlying53 hi hz0 hz1 (by decide) (by decide) [.int .u64 (id : Int), .int .i64 fl, .int .u64 0, .int .u64 0] (by kernel_rfl) rfl ?_
  simp only [Act.put]
  refine hK.out _ _ (World.rangeAt_alloc hH _) (fun hH => ?_)
  clear hK K
  have c32 : ((w3).alloc (.cells ([.int .u64 (id : Int), .int .i64 fl, .int .u64 0, .int .u64 0]).toArray 80)).cell? ⟨p, 0, none⟩ = some va := (World.cell?_alloc_lt _ _ _ HLT.out).trans HC.out
  refine rd1 (i := 4) (by kernel_rfl) rfl (fun K hK => ?_)
  go_simp
  refine hK.out _ _ hH (fun hH => ?_)
  clear hK K c32
  refine rd1 (i := 11) (by kernel_rfl) rfl (fun K hK => ?_)
  refine step_append_lies _ rfl (.tmp 26) (.tmp 32) 53 rfl 0 80 i0 _ 4 32 Tryz.underlying53 hi hz0 hz1 hz2 rfl (by decide) va S.A.length _ (by kernel_rfl) ((h3.out.accs.drew).alloc _) ⟨w3.heap.size, 0, none⟩ 1 1 [.int .u64 (id : Int), .int .i64 fl, .int .u64 0, .int .u64 0] (by kernel_rfl) rfl hnews.out cs_one (by decide) (le_maxLen (by omega)) (by omega) (Nat.zero_le _) (w3.heap.size + 1) (by simp) ?_
  intro g cap w4 ho4 hg4 hat hlt4
  have HAP := hid (app_factsa h3.out HRX.out HNE.out hg4)
  have hH4 := HAP.out.2.2
  simp only [Act.put]
  refine hK.out _ _ hH4 (fun hH => ?_)
  clear hK K hH4
  refine tk_ (i := 12) (v := .pointer (some ⟨p, 0, none⟩)) rfl (Or.inl ⟨by rfl, fun w' hw' => by clear hw' ; go_simp⟩) hH ?_
  simp only [Act.put]
  refine tk_ (i := 13) (v := .pointer (some ⟨p, 0, none⟩)) rfl (Or.inl ⟨by rfl, fun w' hw' => by clear hw' ; go_simp⟩) hH ?_
  simp only [Act.put]
  have c4 := HAP.out.1.at_ 0 _ rfl
  have f4 := HAP.out.1.frozen 0
  have HO4 := hid ho4
  have HAT := hid hat
  clear ho4 hat hg4
  refine rd1 (i := 14) (by kernel_rfl) rfl (fun K hK => ?_)
  go_simp
  refine hK.out _ _ (fun j v hv => (World.cell?_setCell_far _ _ _ _ HNP.out).trans (hH j v hv)) (fun hH => ?_)
  clear hK K hH
  refine wpAnyH_done (by kernel_rfl) ?_ _
  try simp only [Act.put]
  have HM := hid (h3.out.moreA (X := 57) (x := XN) HAP.out.2.1 (by have h := HO4.out; rw [← HEX.out] at h; exact h) (vend HAT.out) HROOM.out HXN.out)
  clear c4 f4
  generalize (w4.setCell ⟨p, 0, none⟩ (.slice (some ⟨g, 0, none⟩) (S.A.length + 1) cap)) = w5 at *
  go_wp2_with fail
  go_ret
  refine ⟨rfl, ⟨fpG p (.slice (some ⟨g, 0, none⟩) (S.A.length + 1) cap) vt, ⟨_, _, rfl, HM.out.1⟩, ?_, ?_⟩⟩
  ·
   exact ((Fr.of_below HB0.out).mono (fq := fpG p va vt) (by simp)).trans HM.out.2.1 (by intro b hb _; exact hb)
  ·
   intro b hb
   rcases HM.out.2.2 b hb with h | h
   ·
    exact .inl h
   ·
    have := HB0.out.size
    right; omega
end
theorem ropen_any (p : Nat) (fp : List Nat) (S : Lg) (x : Ac) (w : World) (h : Gk 57 p S fp w) (hx : x.flat) (hd : x.deb = 0) (hc : x.cre = 0) :
  Calls Tryz.prog 99 #[.pointer (some ⟨p, 0, none⟩), .agg x.cells.toArray] w fun e w' => e = .returned (.int .i64 (S.ja x : Int)) ∧ Gw 57 p w fp (S.opn x) w' := by
 have hG := h
 obtain ⟨va, vt, rfl, h⟩ := h
 obtain ⟨id, fl, db, cr⟩ := x
 simp only at hd hc
 subst hd hc
 have look : ∀ k, S.ja ⟨id, fl, 0, 0⟩ = k → k ≠ 0 → (S.opn ⟨id, fl, 0, 0⟩) = S := fun k hk h0 => by
  unfold Lg.opn
  rw [if_neg (by rw [hk]; exact h0)]
 show Calls Tryz.prog 99 #[.pointer (some ⟨p, 0, none⟩), .agg #[.int .u64 (id : Int), .int .i64 fl, .int .u64 0, .int .u64 0]] w _
 by_cases h0 : id = 0
 ·
  have e := ja_1 S id fl 0 0 h0
  rw [look _ e (by decide), e]
  subst h0
  exact (ropen_1 p fl w).mono fun e w' hh => ⟨hh.1, (Gw.start hG).below hh.2⟩
 by_cases h1 : S.fa id < S.A.length
 ·
  have e := ja_2 S id fl 0 0 h0 h1
  rw [look _ e (by decide), e]
  exact (ropen_2 p va vt S id fl w h h0 h1).mono fun e w' hh => ⟨hh.1, (Gw.start hG).below hh.2⟩
 by_cases h2 : 1 < fl
 ·
  have e := ja_3 S id fl 0 0 h0 h1 h2
  rw [look _ e (by decide), e]
  exact (ropen_3 p va vt S id fl w h h0 h1 h2).mono fun e w' hh => ⟨hh.1, (Gw.start hG).below hh.2⟩
 by_cases h3 : S.A.length = 8
 ·
  have e := ja_10 S id fl 0 0 h0 h1 h2 h3
  rw [look _ e (by decide), e]
  exact (ropen_4 p va vt S id fl w h h0 h1 h2 h3).mono fun e w' hh => ⟨hh.1, (Gw.start hG).below hh.2⟩
 ·
  have e := ja_0 S id fl 0 0 h0 h1 h2 h3
  have e2 : S.opn ⟨id, fl, 0, 0⟩ = ⟨S.A ++ [⟨id, fl, 0, 0⟩], S.T⟩ := by unfold Lg.opn; rw [if_pos e]
  rw [e, e2]
  exact ropen_0 p va vt S id fl w h h0 h1 h2 (by have := h.wf.la; omega) hx
/-- what a client is told -/
structure An where
 kind : Int
 client : Int
 session : Int
 request : Int
 opn : Int
 body : ByteArray
def An.cells (a : An) : Array Value := #[.int .i64 a.kind, .int .i64 a.client, .int .i64 a.session, .int .i64 a.request, .int .i64 a.opn, .string a.body]
def an0 : An := ⟨0, 0, 0, 0, 0, ⟨#[]⟩⟩
/-- a session's last reply -/
def told (x : Ss) : An := ⟨1, x.c, x.s, x.r, x.o, x.t⟩
structure Mw where
 T : List Ss
 B : Lg
def mw0 : Mw := ⟨[], Lg.nil⟩
/-- the client's session -/
def Mw.his (M : Mw) (c : Int) : Ss := at_8 M.T (pl M.T c)
/-- what the ledger answers -/
def Mw.ans (M : Mw) (op : Int) (t : ByteArray) : ByteArray := ⟨(M.B.doo op (sb t)).2.toArray⟩
/-- what an entry does: of the client c in its session s the request r, the operation op with the body t, in the place o -/
def Mw.does (M : Mw) (c s r op o : Int) (t : ByteArray) : Mw × An :=
 if op = 1 then
  if pl M.T c < M.T.length then (M, if (M.his c).r = 0 then told (M.his c) else an0)
  else (⟨opn M.T c o, M.B⟩, ⟨1, c, o, 0, o, ⟨#[]⟩⟩)
 else if ver M.T c s r = 5 then (M, ⟨2, c, s, r, o, ⟨#[]⟩⟩)
 else if ver M.T c s r = 1 then (⟨note M.T c r o (M.ans op t), (M.B.doo op (sb t)).1⟩, ⟨1, c, s, r, o, M.ans op t⟩)
 else if ver M.T c s r = 2 then (M, told (M.his c))
 else (M, an0)
structure Mw.WF (M : Mw) : Prop where
 t : Go.Proofs.YtgednnjmcjhfmaaGreatDoor.WF M.T
 one : One M.T
 b : M.B.WF
 g : M.B.Good
theorem mw0_wf : mw0.WF := ⟨nil_wf, nil_one, Lg.nil_wf, Lg.nil_good⟩
theorem Mw.does_wf {M : Mw} (h : M.WF) (c s r op o : Int) (t : ByteArray) : (M.does c s r op o t).1.WF := by
 unfold Mw.does
 by_cases h1 : op = 1
 ·
  rw [if_pos h1]
  by_cases h2 : pl M.T c < M.T.length
  ·
   rw [if_pos h2]; exact h
  ·
   rw [if_neg h2]; exact ⟨opn_wf h.t _ _, opn_one h.one _ _, h.b, h.g⟩
 ·
  rw [if_neg h1]
  by_cases h3 : ver M.T c s r = 5
  ·
   rw [if_pos h3]; exact h
  ·
   rw [if_neg h3]
   by_cases h4 : ver M.T c s r = 1
   ·
    rw [if_pos h4]
    have hone : One (note M.T c r o (M.ans op t)) := by
     have := doo_one h.one ⟨2, c, 0, r, o, M.ans op t⟩
     exact this
    exact ⟨note_wf h.t _ _ _ _, hone, Lg.doo_wf h.b _ _, Lg.doo_good h.g _ _⟩
   ·
    rw [if_neg h4]
    by_cases h5 : ver M.T c s r = 2
    ·
     rw [if_pos h5]; exact h
    ·
     rw [if_neg h5]; exact h
theorem Mw.ans_len (M : Mw) (op : Int) (t : ByteArray) : (M.ans op t).size ≤ 200 := by
 have h := doo_len M.B op (sb t)
 have e : sb (M.ans op t) = (M.B.doo op (sb t)).2 := sb_mk _
 rw [← sb_len, e]
 exact h
/-- a request that is Fresh is of a client that has a session -/
theorem ver_here {T : List Ss} {c s r : Int} (h : ver T c s r ≠ 5) : pl T c < T.length ∧ (at_8 T (pl T c)).s = s := by
 unfold ver at h
 by_cases h1 : pl T c < T.length
 ·
  by_cases h2 : (at_8 T (pl T c)).s = s
  ·
   exact ⟨h1, h2⟩
  ·
   rw [if_neg (fun q => q h1), if_pos h2] at h
   exact absurd rfl h
 ·
  rw [if_pos h1] at h
  exact absurd rfl h
theorem ver_fresh_iff {T : List Ss} {c s r : Int} : ver T c s r = 1 ↔ pl T c < T.length ∧ (at_8 T (pl T c)).s = s ∧ r = (at_8 T (pl T c)).r + 1 := by
 constructor
 ·
  intro h
  obtain ⟨h1, h2⟩ := ver_here (T := T) (c := c) (s := s) (r := r) (by rw [h]; decide)
  refine ⟨h1, h2, ?_⟩
  unfold ver at h
  rw [if_neg (fun q => q h1), if_neg (fun q => q h2)] at h
  by_cases h3 : r = (at_8 T (pl T c)).r + 1
  ·
   exact h3
  ·
   rw [if_neg h3] at h
   split at h
   ·
    exact absurd h (by decide)
   ·
    split at h <;> exact absurd h (by decide)
 ·
  rintro ⟨h1, h2, h3⟩
  unfold ver
  rw [if_neg (fun q => q h1), if_neg (fun q => q h2), if_pos h3]
/-- a Fresh request of numbers that may be is noted -/
theorem note_fresh {M : Mw} {c s r o op : Int} {t : ByteArray} (hv : ver M.T c s r = 1) (hr : Fit r) (ho : Fit o) : notE M.T c r o (M.ans op t) = 0 := by
 obtain ⟨h1, _, _⟩ := ver_fresh_iff.1 hv
 have := M.ans_len op t
 unfold notE
 rw [if_neg (fun q => q h1), if_neg (by omega), if_neg (by omega)]
/-- a place that is opened for a client without a session -/
theorem opn_new {T : List Ss} {c o : Int} (h : ¬ pl T c < T.length) (hc : Fit1 c) (ho : Fit1 o) : opnE T c o = 0 := by
 unfold opnE
 rw [if_neg (by omega), if_neg h]
/-! ### as bytes -/
/-- a text behind its length -/
def txt (l : List UInt8) : List UInt8 := le l.length 2 ++ l
/-- a machine whose mark has these three numbers -/
def packM (op view sum : Nat) (M : Mw) : List UInt8 := le op 8 ++ le view 8 ++ le sum 8 ++ txt (pack M.T) ++ txt M.B.pack
theorem pack8_le {T : List Ss} (h : WF T) : (pack T).length ≤ 703 := by
 have hl := h.le
 have key : ∀ l : List Ss, (∀ x ∈ l, x.ok) → (l.flatMap ssB).length ≤ 234 * l.length := by
  intro l
  induction l with
  | nil => intro _; simp
  | cons x l ih =>
   intro hx
   have h1 := ih (fun y hy => hx y (List.mem_cons_of_mem _ hy))
   have h2 := (hx x (List.mem_cons_self ..)).t
   rw [List.flatMap_cons, List.length_append, ssB_len, List.length_cons]
   omega
 have := key T h.ok
 unfold pack
 rw [List.length_cons]
 omega
/-- what an entry brings -/
structure Rq where
 c : Int
 s : Int
 r : Int
 op : Int
 t : ByteArray
/-- what is known behind the place o of the table, and of what was told (D: who asked what, and what was told) -/
structure Inv (M : Mw) (o : Int) (D : List (Rq × An)) : Prop where
 wf : M.WF
 t : ∀ x ∈ M.T, x.s ≤ o ∧ x.o ≤ o
 shape : ∀ d ∈ D, d.2.client = d.1.c ∧ d.2.session ≤ o ∧ (d.1.op = 1 → d.2.request = 0) ∧ (d.1.op ≠ 1 → d.2.session = d.1.s ∧ d.2.request = d.1.r)
 last : ∀ d ∈ D, ∀ x ∈ M.T, x.c = d.1.c → x.s = d.2.session → d.2.request ≤ x.r ∧ (x.r = d.2.request → told x = d.2)
/-- it took effect -/
def Eff (a : An) (o : Int) : Prop := a.kind = 1 ∧ a.opn = o
instance (a : An) (o : Int) : Decidable (Eff a o) := by unfold Eff; infer_instance
def grow (D : List (Rq × An)) (q : Rq) (a : An) (o : Int) : List (Rq × An) := if Eff a o then D ++ [(q, a)] else D
/-- the machine M lies at p: its own cells C (type XM), its table at ps (type XS), its ledger at pb (type XB), in the blocks fp -/
def Gm (XM XS XB p ps pb : Nat) (C : List Value) (M : Mw) (fp : List Nat) (w : World) : Prop :=
 ∃ fs fb, fp = p :: (fs ++ fb) ∧ Row w p XM C ∧ Gk8 XS ps M.T fs w ∧ Gk XB pb M.B fb w ∧ p ∉ fs ∧ p ∉ fb ∧ ∀ b ∈ fs, b ∉ fb
/-- since w, where it lay in fp, the machine is so now -/
def Gmw (XM XS XB p ps pb : Nat) (w : World) (fp : List Nat) (C : List Value) (M : Mw) (wr : World) : Prop :=
 ∃ fq, Gm XM XS XB p ps pb C M fq wr ∧ Fr w wr fp ∧ ∀ g ∈ fq, g ∈ fp ∨ w.heap.size ≤ g
section
variable {XM XS XB p ps pb : Nat} {C C' : List Value} {M M' : Mw} {fp fq : List Nat} {w w' w'' : World} {P : Program} {f : FuncId} {args : Array Value} {v : Ending}
theorem Gm.row (h : Gm XM XS XB p ps pb C M fp w) : Row w p XM C := by obtain ⟨_, _, _, h, _⟩ := h; exact h
theorem Gm.s (h : Gm XM XS XB p ps pb C M fp w) : ∃ fs, Gk8 XS ps M.T fs w := by obtain ⟨fs, _, _, _, h, _⟩ := h; exact ⟨fs, h⟩
theorem Gm.b (h : Gm XM XS XB p ps pb C M fp w) : ∃ fb, Gk XB pb M.B fb w := by obtain ⟨_, fb, _, _, _, h, _⟩ := h; exact ⟨fb, h⟩
theorem Gm.lt (h : Gm XM XS XB p ps pb C M fp w) : ∀ b ∈ fp, b < w.heap.size := by
 obtain ⟨fs, fb, rfl, h1, h2, h3, _⟩ := h
 intro b hb
 rcases List.mem_cons.1 hb with rfl | hb
 ·
  exact h1.lt
 ·
  rcases List.mem_append.1 hb with hb | hb
  ·
   exact h2.lt b hb
  ·
   exact h3.lt b hb
theorem Gm.fr (h : Gm XM XS XB p ps pb C M fp w) (hf : Fr w w' fq) (hd : ∀ b ∈ fp, b ∉ fq) : Gm XM XS XB p ps pb C M fp w' := by
 obtain ⟨fs, fb, rfl, h1, h2, h3, h4, h5, h6⟩ := h
 exact ⟨fs, fb, rfl, hf.row h1 (hd p (by simp)), h2.fr hf (fun b hb => hd b (by simp [hb])), h3.fr hf (fun b hb => hd b (by simp [hb])), h4, h5, h6⟩
theorem Gm.below (h : Gm XM XS XB p ps pb C M fp w) (hb : Below w.heap.size w w') : Gm XM XS XB p ps pb C M fp w' := h.fr (Fr.of_below hb) (by simp)
theorem Gmw.start (h : Gm XM XS XB p ps pb C M fp w) : Gmw XM XS XB p ps pb w fp C M w := ⟨fp, h, Fr.refl _ _, fun _ hg => .inl hg⟩
theorem Gmw.frame (h : Gmw XM XS XB p ps pb w fp C M w') : Fr w w' fp := by obtain ⟨_, _, h, _⟩ := h; exact h
theorem Gmw.row (h : Gmw XM XS XB p ps pb w fp C M w') : Row w' p XM C := by obtain ⟨_, h, _⟩ := h; exact h.row
theorem Gmw.kept (h : Gmw XM XS XB p ps pb w fp C M w') (hf : Fr w' w'' []) : Gmw XM XS XB p ps pb w fp C M w'' := by
 obtain ⟨fq, h1, h2, h3⟩ := h
 exact ⟨fq, h1.fr hf (by simp), h2.trans hf (by simp), h3⟩
theorem Gmw.below (h : Gmw XM XS XB p ps pb w fp C M w') (hb : Below w'.heap.size w' w'') : Gmw XM XS XB p ps pb w fp C M w'' := h.kept (Fr.of_below hb)
/-- one thing behind another -/
theorem Gmw.step (h : Gmw XM XS XB p ps pb w fp C M w') (hn : ∀ fq, Gm XM XS XB p ps pb C M fq w' → Gmw XM XS XB p ps pb w' fq C' M' w'') : Gmw XM XS XB p ps pb w fp C' M' w'' := by
 obtain ⟨fq, h1, h2, h3⟩ := h
 obtain ⟨fr, k1, k2, k3⟩ := hn fq h1
 have hs := h2.size
 refine ⟨fr, k1, h2.trans k2 (fun b hb hlt => ?_), fun g hg => ?_⟩
 ·
  rcases h3 b hb with h | h
  ·
   exact h
  ·
   omega
 ·
  rcases k3 g hg with h | h
  ·
   exact h3 g h
  ·
   exact .inr (by omega)
/-- its own cells are written -/
theorem Gm.turn (h : Gm XM XS XB p ps pb C M fp w) (hr : Row w' p XM C') (hg : w.grownBy w' (some p)) : Gmw XM XS XB p ps pb w fp C' M w' := by
 obtain ⟨fs, fb, rfl, h1, h2, h3, h4, h5, h6⟩ := h
 have hf : Fr w w' [p] := (Fr.refl w [p]).grown hg (fun k hk => .inl (by cases hk; simp))
 refine ⟨p :: (fs ++ fb), ⟨fs, fb, rfl, hr, h2.fr hf (fun b hb hn => ?_), h3.fr hf (fun b hb hn => ?_), h4, h5, h6⟩, hf.mono (fun b hb => ?_), fun g hg => .inl hg⟩
 ·
  rw [List.mem_singleton.1 hn] at hb; exact h4 hb
 ·
  rw [List.mem_singleton.1 hn] at hb; exact h5 hb
 ·
  rw [List.mem_singleton.1 hb]; simp
/-- its table is turned -/
theorem Gm.sess {T' : List Ss} (h : Gm XM XS XB p ps pb C M fp w) (H : ∀ fs, Gk8 XS ps M.T fs w → Gw8 XS ps w fs T' w') : Gmw XM XS XB p ps pb w fp C ⟨T', M.B⟩ w' := by
 obtain ⟨fs, fb, rfl, h1, h2, h3, h4, h5, h6⟩ := h
 obtain ⟨ft, k1, k2, k3⟩ := H fs h2
 have l1 := h1.lt
 have l3 := h3.lt
 refine ⟨p :: (ft ++ fb), ⟨ft, fb, rfl, k2.row h1 h4, k1, h3.fr k2 (fun b hb hn => h6 b hn hb), fun hp => ?_, h5, fun b hb hn => ?_⟩, k2.mono (fun b hb => by simp [hb]), fun g hg => ?_⟩
 ·
  rcases k3 p hp with h | h
  ·
   exact h4 h
  ·
   omega
 ·
  rcases k3 b hb with h | h
  ·
   exact h6 b h hn
  ·
   have := l3 b hn; omega
 ·
  rcases List.mem_cons.1 hg with rfl | hg
  ·
   exact .inl (by simp)
  ·
   rcases List.mem_append.1 hg with hg | hg
   ·
    rcases k3 g hg with h | h
    ·
     exact .inl (by simp [h])
    ·
     exact .inr h
   ·
    exact .inl (by simp [hg])
/-- a call of its table, as a step of a walk: the table's contract, wherever it lies -/
theorem Gmw.call_s {T' : List Ss} (h : Gmw XM XS XB p ps pb w fp C M w') (H : ∀ fs, Gk8 XS ps M.T fs w' → Calls P f args w' fun e w'' => e = v ∧ Gw8 XS ps w' fs T' w'') :
  Calls P f args w' fun e w'' => e = v ∧ Gmw XM XS XB p ps pb w fp C ⟨T', M.B⟩ w'' := by
 obtain ⟨fq, h1, h2, h3⟩ := h
 obtain ⟨fs, fb, rfl, k1, k2, k3, k4, k5, k6⟩ := h1
 refine (H fs k2).mono fun e w'' hh => ⟨hh.1, ?_⟩
 have hg : Gmw XM XS XB p ps pb w' (p :: (fs ++ fb)) C ⟨T', M.B⟩ w'' := by
  obtain ⟨ft, j1, j2, j3⟩ := hh.2
  have l1 := k1.lt
  have l3 := k3.lt
  refine ⟨p :: (ft ++ fb), ⟨ft, fb, rfl, j2.row k1 k4, j1, k3.fr j2 (fun b hb hn => k6 b hn hb), fun hp => ?_, k5, fun b hb hn => ?_⟩, j2.mono (fun b hb => by simp [hb]), fun g hg => ?_⟩
  ·
   rcases j3 p hp with h | h
   ·
    exact k4 h
   ·
    omega
  ·
   rcases j3 b hb with h | h
   ·
    exact k6 b h hn
   ·
    have := l3 b hn; omega
  ·
   rcases List.mem_cons.1 hg with rfl | hg
   ·
    exact .inl (by simp)
   ·
    rcases List.mem_append.1 hg with hg | hg
    ·
     rcases j3 g hg with h | h
     ·
      exact .inl (by simp [h])
     ·
      exact .inr h
    ·
     exact .inl (by simp [hg])
 obtain ⟨fr, j1, j2, j3⟩ := hg
 have hs := h2.size
 refine ⟨fr, j1, h2.trans j2 (fun b hb hlt => ?_), fun g hg => ?_⟩
 ·
  rcases h3 b hb with h | h
  ·
   exact h
  ·
   omega
 ·
  rcases j3 g hg with h | h
  ·
   exact h3 g h
  ·
   exact .inr (by omega)
/-- a call of its ledger -/
theorem Gmw.call_b {B' : Lg} (h : Gmw XM XS XB p ps pb w fp C M w') (H : ∀ fb, Gk XB pb M.B fb w' → Calls P f args w' fun e w'' => e = v ∧ Gw XB pb w' fb B' w'') :
  Calls P f args w' fun e w'' => e = v ∧ Gmw XM XS XB p ps pb w fp C ⟨M.T, B'⟩ w'' := by
 obtain ⟨fq, h1, h2, h3⟩ := h
 obtain ⟨fs, fb, rfl, k1, k2, k3, k4, k5, k6⟩ := h1
 refine (H fb k3).mono fun e w'' hh => ⟨hh.1, ?_⟩
 have hg : Gmw XM XS XB p ps pb w' (p :: (fs ++ fb)) C ⟨M.T, B'⟩ w'' := by
  obtain ⟨ft, j1, j2, j3⟩ := hh.2
  have l1 := k1.lt
  have l2 := k2.lt
  refine ⟨p :: (fs ++ ft), ⟨fs, ft, rfl, j2.row k1 k5, k2.fr j2 (fun b hb hn => k6 b hb hn), j1, k4, fun hp => ?_, fun b hb hn => ?_⟩, j2.mono (fun b hb => by simp [hb]), fun g hg => ?_⟩
  ·
   rcases j3 p hp with h | h
   ·
    exact k5 h
   ·
    omega
  ·
   rcases j3 b hn with h | h
   ·
    exact k6 b hb h
   ·
    have := l2 b hb; omega
  ·
   rcases List.mem_cons.1 hg with rfl | hg
   ·
    exact .inl (by simp)
   ·
    rcases List.mem_append.1 hg with hg | hg
    ·
     exact .inl (by simp [hg])
    ·
     rcases j3 g hg with h | h
     ·
      exact .inl (by simp [h])
     ·
      exact .inr h
 obtain ⟨fr, j1, j2, j3⟩ := hg
 have hs := h2.size
 refine ⟨fr, j1, h2.trans j2 (fun b hb hlt => ?_), fun g hg => ?_⟩
 ·
  rcases h3 b hb with h | h
  ·
   exact h
  ·
   omega
 ·
  rcases j3 g hg with h | h
  ·
   exact h3 g h
  ·
   exact .inr (by omega)
/-- its own cells are written, behind other things -/
theorem Gmw.turn (h : Gmw XM XS XB p ps pb w fp C M w') (hr : Row w'' p XM C') (hg : w'.grownBy w'' (some p)) : Gmw XM XS XB p ps pb w fp C' M w'' := h.step (fun _ hk => hk.turn hr hg)
end
end Go.Proofs.YtgednnjmcjhfmaaGreatDoor
