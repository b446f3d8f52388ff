/-
  The walk of package ledger's makeTransfer.
-/
import Derived.Test.YtgednnjmcjhfmaaGreatDoorM13
import Derived.Test.YtgednnjmcjhfmaaGreatDoorM02
namespace Go.Proofs.YtgednnjmcjhfmaaGreatDoor
open Go.RowKit
set_option maxRecDepth 10000
set_option maxHeartbeats 80000000
theorem paid_set {S : Lg} {t : Tr} (h : S.Moves t) : S.paid t = (S.A.set (S.fa t.b) (deb_ t.d (S.A[S.fa t.b]'h.hb))).set (S.fa t.c) (cre_ t.d (S.A[S.fa t.c]'h.hc)) := by
 have hn := h.ne
 apply List.ext_getElem
 ·
  rw [S.paid_len]; simp
 ·
  intro i h1 h2
  have hi : i < S.A.length := by rw [S.paid_len] at h1; exact h1
  rw [Lg.paid_get h i hi, List.getElem_set]
  by_cases e1 : S.fa t.c = i
  ·
   rw [if_pos e1, if_neg (by omega), if_pos e1.symm]
   subst e1
   rfl
  ·
   rw [if_neg e1, List.getElem_set]
   by_cases e2 : S.fa t.b = i
   ·
    rw [if_pos e2, if_pos e2.symm]
    subst e2
    rfl
   ·
    rw [if_neg e2, if_neg (Ne.symm e2), if_neg (Ne.symm e1)]
section
variable (p g i k : Nat) (va vt : Value) (S : Lg) (a b c d : Nat) (w : World) (h : HasG w 96 p va vt S)
include h in
theorem maket_yes (ht : (⟨a, b, c, d⟩ : Tr).ok) (hm : S.Moves ⟨a, b, c, d⟩) (hj : S.jt ⟨a, b, c, d⟩ = 0) (hg : va.ownBlock = some g) (hei : S.fa b = i) (hek : S.fa c = k) (hi : i < S.A.length) (hk : k < S.A.length) :
  Calls Tryz.prog 90 #[.pointer (some ⟨p, 0, none⟩), .agg #[.int .u64 (a : Int), .int .u64 (b : Int), .int .u64 (c : Int), .int .u64 (d : Int)]] w fun e w' => e = .returned (.string ⟨[0].toArray⟩) ∧ Gw 96 p w (fpG p va vt) ⟨S.paid ⟨a, b, c, d⟩, S.T ++ [⟨a, b, c, d⟩]⟩ w' := by
 have HA := hid (fun W (hW : Below w.heap.size w W) => account_any p va vt S b W (h.below hW))
 have HB := hid (fun W (hW : Below w.heap.size w W) => account_any p va vt S c W (h.below hW))
 have HJ := hid (fun W (hW : Below w.heap.size w W) => judget_any p va vt S ⟨a, b, c, d⟩ W (h.below hW) ht.2.2.2)
 have hpd : ptF va S b = .pointer (some ⟨g, i * 4, none⟩) := by rw [ptF_yes (by rw [hei]; exact hi) hg, hei]; rfl
 have hpc : ptF va S c = .pointer (some ⟨g, k * 4, none⟩) := by rw [ptF_yes (by rw [hek]; exact hk) hg, hek]; rfl
 rw [hpd] at HA
 rw [hpc] at HB
 have HJ2 : Hid (∀ W, Below w.heap.size w W → Calls Tryz.prog 128 #[.pointer (some ⟨p, 0, none⟩), .agg #[.int .u64 (a : Int), .int .u64 (b : Int), .int .u64 (c : Int), .int .u64 (d : Int)], .pointer (some ⟨g, i * 4, none⟩), .pointer (some ⟨g, k * 4, none⟩)] W (VE W (.int .i64 0))) := hid fun W hW => by
  have := HJ.out W hW
  rw [hj] at this
  show Calls _ _ #[_, .agg (Tr.cells ⟨a, b, c, d⟩).toArray, _, _] _ _
  rw [← hpd, ← hpc]
  exact this
 have HO : Hid (∀ W, Calls Tryz.prog 109 #[.int .i64 0] W (SE W [0])) := hid (fun W => onebyte_any 0 W (by decide))
 have HH := hid h
 have HLW := hid h.lt
 have hnt : S.T.length + 1 ≤ 16 := by
  have := h.wf.lt
  have := hm.room
  omega
 have HROOM := hid hnt
 have hn8 : S.T.length ≤ 16 := by omega
 have cs_one : ∀ u ∈ ([.int .u64 (a : Int), .int .u64 (b : Int), .int .u64 (c : Int), .int .u64 (d : Int)] : List Value), u.oneCell' = true := cs_one4 rfl rfl rfl rfl
 have HRW := hid (show Row (w.alloc (.cells #[.int .u64 (a : Int), .int .u64 (b : Int), .int .u64 (c : Int), .int .u64 (d : Int)] 82)) w.heap.size 82 [.int .u64 (a : Int), .int .u64 (b : Int), .int .u64 (c : Int), .int .u64 (d : Int)] from Row.new _ _ _)
 have HB0 := hid ((Below.refl w.heap.size w).alloc (Nat.le_refl _) (.cells #[.int .u64 (a : Int), .int .u64 (b : Int), .int .u64 (c : Int), .int .u64 (d : Int)] 82))
 have hik : i ≠ k := by have := hm.ne; simp only [hei, hek] at this; exact this
 have hob : U64 (S.A[i].deb + d) := by have := hm.ob; simp only [hei] at this; exact this
 have hoc : U64 (S.A[k].cre + d) := by have := hm.oc; simp only [hek] at this; exact this
 have e1 := u64_wrap_small _ _ hob
 have e2 := u64_wrap_small _ _ hoc
 clear hob hoc
 have HP : Hid (S.paid ⟨a, b, c, d⟩ = (S.A.set i (deb_ d S.A[i])).set k (cre_ d S.A[k])) := hid (by
  rw [paid_set hm]
  simp only [hei, hek])
 have HFB : Hid ((deb_ d S.A[i]).flat) := hid (by
  have := h.wf.oa _ (List.getElem_mem hi)
  have ho := hm.ob
  simp only [hei] at ho
  exact ⟨⟨this.1.1, this.1.2.1, ho, this.1.2.2.2⟩, this.2⟩)
 have HFC : Hid ((cre_ d S.A[k]).flat) := hid (by
  have := h.wf.oa _ (List.getElem_mem hk)
  have ho := hm.oc
  simp only [hek] at ho
  exact ⟨⟨this.1.1, this.1.2.1, this.1.2.2.1, ho⟩, this.2⟩)
 obtain ⟨XN, hXN⟩ : ∃ XN : Tr, XN = ⟨a, b, c, d⟩ := ⟨_, rfl⟩
 have HXN : Hid XN.ok := hid (by rw [hXN]; exact ht)
 have HEX : Hid (XN.cells = [.int .u64 (a : Int), .int .u64 (b : Int), .int .u64 (c : Int), .int .u64 (d : Int)]) := hid (by rw [hXN]; rfl)
 rw [← hXN] at HP ⊢
 obtain ⟨SP, hSP⟩ : ∃ SP, SP = S.paid XN := ⟨_, rfl⟩
 rw [← hSP] at HP ⊢
 have HG := hid hg
 clear HJ h hj ht hm hei hek hpd hpc hnt hXN hSP hg
 have HRANGE := hid (show ∀ W : World, Row W w.heap.size 82 [.int .u64 (a : Int), .int .u64 (b : Int), .int .u64 (c : Int), .int .u64 (d : Int)] → W.cell? ⟨w.heap.size, 1, none⟩ = some (.int .u64 (b : Int)) ∧ W.cell? ⟨w.heap.size, 2, none⟩ = some (.int .u64 (c : Int)) ∧ W.cell? ⟨w.heap.size, 3, none⟩ = some (.int .u64 (d : Int)) from fun W hr => ⟨hr.at_ 1 _ rfl, hr.at_ 2 _ rfl, hr.at_ 3 _ rfl⟩)
 go_enter Tryz.func90, Tryz.ntmps90
 go_wp2_with fail
 have HC1 := hid (fun W (hW : Kp (w.alloc (.cells #[.int .u64 (a : Int), .int .u64 (b : Int), .int .u64 (c : Int), .int .u64 (d : Int)] 82)) W) => (HRANGE.out W (HRW.out.below hW (by simp))).1)
 have HC2 := hid (fun W (hW : Kp (w.alloc (.cells #[.int .u64 (a : Int), .int .u64 (b : Int), .int .u64 (c : Int), .int .u64 (d : Int)] 82)) W) => (HRANGE.out W (HRW.out.below hW (by simp))).2.1)
 have HB1 := hid (fun W (hW : Kp (w.alloc (.cells #[.int .u64 (a : Int), .int .u64 (b : Int), .int .u64 (c : Int), .int .u64 (d : Int)] 82)) W) => HB0.out.trans (Below.mono hW (by simp)))
 refine wp_region_held_drew (S := fun w' => Kp (w.alloc (.cells #[.int .u64 (a : Int), .int .u64 (b : Int), .int .u64 (c : Int), .int .u64 (d : Int)] 82)) w') (by kernel_rfl) (Kp.refl _).drew (fun hH => ?_)
 refine tk_ (i := 0) (v := .pointer (some ⟨p, 0, none⟩)) rfl (Or.inl ⟨by rfl, fun w' hw' => by clear hw' ; go_simp⟩) hH ?_
 simp only [Act.put]
 refine tk_ (i := 1) (v := .pointer (some ⟨w.heap.size, 1, none⟩)) rfl (Or.inl ⟨by rfl, fun w' hw' => by clear hw' ; go_simp⟩) hH ?_
 simp only [Act.put]
 refine tk_ (i := 2) (v := .int .u64 (b : Int)) rfl (Or.inl ⟨by rfl, fun w' hw' => by have h := HC1.out w' hw'; go_simp⟩) hH ?_
 simp only [Act.put]
 refine tk_ (i := 4) (v := .pointer (some ⟨p, 0, none⟩)) rfl (Or.inl ⟨by rfl, fun w' hw' => by clear hw' ; go_simp⟩) hH ?_
 simp only [Act.put]
 refine tk_ (i := 5) (v := .pointer (some ⟨w.heap.size, 2, none⟩)) rfl (Or.inl ⟨by rfl, fun w' hw' => by clear hw' ; go_simp⟩) hH ?_
 simp only [Act.put]
 refine tk_ (i := 6) (v := .int .u64 (c : Int)) rfl (Or.inl ⟨by rfl, fun w' hw' => by have h := HC2.out w' hw'; go_simp⟩) hH ?_
 simp only [Act.put]
 refine rd1 (i := 3) (by kernel_rfl) rfl (fun K hK => ?_)
 go_simp
 go_at_call 127
 refine (HA.out _ (HB1.out _ hH)).mono ?_
 rintro e w1 ⟨rfl, hb1⟩
 go_wp2_with fail
 refine hK.out _ _ (Kp.call hb1 hH) (fun hH => ?_)
 clear hK K
 try simp only [Act.put]
 refine rd1 (i := 7) (by kernel_rfl) rfl (fun K hK => ?_)
 go_simp
 go_at_call 127
 refine (HB.out _ (HB1.out _ hH)).mono ?_
 rintro e w2 ⟨rfl, hb2⟩
 go_wp2_with fail
 refine hK.out _ _ (Kp.call hb2 hH) (fun hH => ?_)
 clear hK K
 try simp only [Act.put]
 refine rd1 (i := 8) (by kernel_rfl) rfl (fun K hK => ?_)
 go_simp
 refine hK.out _ _ (hH) (fun hH => ?_)
 clear hK K
 try simp only [Act.put]
 refine rd1 (i := 9) (by kernel_rfl) rfl (fun K hK => ?_)
 go_simp
 refine hK.out _ _ (hH) (fun hH => ?_)
 clear hK K
 try simp only [Act.put]
 refine wpAnyH_done (by kernel_rfl) ?_ _
 try simp only [Act.put]
 have HRX2 := hid (HRW.out.below hH (by simp))
 have HB2 := hid (HB1.out _ hH)
 clear hH HC1 HC2 HB1 HA HB hb1 hb2 HRW HB0
 go_wp2_with (first
  | (refine wpList_load_row rfl 82 (.tmp 3) rfl w.heap.size rfl 82 ([.int .u64 (a : Int), .int .u64 (b : Int), .int .u64 (c : Int), .int .u64 (d : Int)] : List Value).toArray (0, 0) _ HRX2.out Tryz.underlying82 rfl trSize ?_)
  | (go_at_call 128; refine (HJ2.out _ HB2.out).mono ?_; rintro e w3 ⟨rfl, hb3⟩))
 have HB3 := hid (HB2.out.trans (hb3.mono HB2.out.size))
 have HRX3 := hid (HRX2.out.below hb3 HRX2.out.lt)
 have h3 := hid (HH.out.below HB3.out)
 have HNE : Hid (∀ b ∈ fpG p va vt, b ≠ w.heap.size) := hid fun b hb => by have := HLW.out b hb; omega
 have HNEP : Hid (p ≠ w.heap.size) := hid (HNE.out p (by simp [fpG]))
 have HNEG : Hid (w.heap.size ≠ g) := hid (Ne.symm (HNE.out g (by simp [fpG, HG.out])))
 clear HJ2 HB2 HRX2 hb3
 have c3 := (HRANGE.out _ HRX3.out).2.2
 have HC3 : Hid (w3.drew.cell? ⟨w.heap.size, 3, none⟩ = some (.int .u64 (d : Int))) := hid c3
 have gc : w3.cell? ⟨g, i * 4 + 2, none⟩ = some (.int .u64 (S.A[i].deb : Int)) := h3.out.cellA HG.out i 2 hi (by decide)
 have gf : w3.frozen? ⟨g, i * 4 + 2, none⟩ = false := h3.out.frozenA HG.out _
 have HT := hid (h3.out.turn HG.out i 2 (.int .u64 ((S.A[i].deb + d : Nat) : Int)) (deb_ d S.A[i]) hi (by decide) (by rfl) HFB.out).drew
 have HTR : Hid (Row (w3.setCell ⟨g, i * 4 + 2, none⟩ (.int .u64 ((S.A[i].deb + d : Nat) : Int))).drew w.heap.size 82 [.int .u64 (a : Int), .int .u64 (b : Int), .int .u64 (c : Int), .int .u64 (d : Int)]) := hid (Row.far HRX3.out (p := ⟨g, i * 4 + 2, none⟩) HNEG.out _)
 have HTF := hid (Fr.turn (p := p) (va := va) (vt := vt) w3 (i * 4 + 2) (.int .u64 ((S.A[i].deb + d : Nat) : Int)) HG.out).drew
 clear c3
 obtain ⟨n0, hn0⟩ : ∃ n, S.A[i].deb = n := ⟨_, rfl⟩
 rw [hn0] at gc HT HTR HTF e1
 clear hn0
 refine wp_region_held_drew (S := fun w' => w'.cell? ⟨w.heap.size, 3, none⟩ = some (.int .u64 (d : Int))) (by kernel_rfl) HC3.out (fun hH => ?_)
 refine tk_ (i := 0) (v := .pointer (some ⟨g, i * 4, none⟩)) rfl (Or.inl ⟨by rfl, fun w' hw' => by clear hw' ; go_simp⟩) hH ?_
 simp only [Act.put]
 refine tk_ (i := 1) (v := .pointer (some ⟨g, i * 4, none⟩)) rfl (Or.inl ⟨by rfl, fun w' hw' => by clear hw' ; go_simp⟩) hH ?_
 simp only [Act.put]
 refine tk_ (i := 2) (v := .pointer (some ⟨g, i * 4 + 2, none⟩)) rfl (Or.inl ⟨by rfl, fun w' hw' => by clear hw' ; go_simp⟩) hH ?_
 simp only [Act.put]
 refine tk_ (i := 4) (v := .pointer (some ⟨w.heap.size, 3, none⟩)) rfl (Or.inl ⟨by rfl, fun w' hw' => by clear hw' ; go_simp⟩) hH ?_
 simp only [Act.put]
 refine tk_ (i := 5) (v := .int .u64 (d : Int)) rfl (Or.inl ⟨by rfl, fun w' hw' => by have h := hw'; go_simp⟩) hH ?_
 simp only [Act.put]
 refine rd1 (i := 3) (by kernel_rfl) rfl (fun K hK => ?_)
 go_simp
 refine hK.out _ _ hH (fun hH => ?_)
 clear hK K
 refine tk_ (i := 6) (v := .int .u64 ((n0 + d : Nat) : Int)) rfl (Or.inl ⟨by rfl, fun w' hw' => by clear hw' ; go_simp⟩) hH ?_
 simp only [Act.put]
 refine tk_ (i := 7) (v := .pointer (some ⟨g, i * 4, none⟩)) rfl (Or.inl ⟨by rfl, fun w' hw' => by clear hw' ; go_simp⟩) hH ?_
 simp only [Act.put]
 refine tk_ (i := 8) (v := .pointer (some ⟨g, i * 4 + 2, none⟩)) rfl (Or.inl ⟨by rfl, fun w' hw' => by clear hw' ; go_simp⟩) hH ?_
 simp only [Act.put]
 refine rd1 (i := 9) (by kernel_rfl) rfl (fun K hK => ?_)
 go_simp
 refine hK.out _ _ ((World.cell?_setCell_far _ _ _ _ (Ne.symm HNEG.out)).trans hH) (fun hH => ?_)
 clear hK K hH
 refine wpAnyH_done (by kernel_rfl) ?_ _
 try simp only [Act.put]
 clear gc gf HC3 e1
 rw [Int.natCast_add] at HT HTR HTF
 generalize (w3.setCell ⟨g, i * 4 + 2, none⟩ (.int .u64 ((n0 : Int) + (d : Int)))).drew = w4 at *
 go_wp2_with fail
 have HRX4 := hid HTR.out
 have h4 := hid HT.out
 have HF4 := hid (((Fr.of_below HB3.out).mono (fq := fpG p va vt) (by simp)).trans HTF.out (fun b hb _ => hb))
 clear HTR HT HTF
 have c3 := (HRANGE.out _ HRX4.out).2.2
 have HC3 : Hid (w4.drew.cell? ⟨w.heap.size, 3, none⟩ = some (.int .u64 (d : Int))) := hid c3
 have gc : w4.cell? ⟨g, k * 4 + 3, none⟩ = some (.int .u64 (S.A[k].cre : Int)) := (by rw [h4.out.cellA HG.out k 3 (by simpa using hk) (by decide)]; simp only [List.getElem_set_ne hik]; rfl)
 have gf : w4.frozen? ⟨g, k * 4 + 3, none⟩ = false := h4.out.frozenA HG.out _
 have HT := hid (h4.out.turn HG.out k 3 (.int .u64 ((S.A[k].cre + d : Nat) : Int)) (cre_ d S.A[k]) (by simpa using hk) (by decide) (by simp only [List.getElem_set_ne hik]; rfl) HFC.out).drew
 have HTR : Hid (Row (w4.setCell ⟨g, k * 4 + 3, none⟩ (.int .u64 ((S.A[k].cre + d : Nat) : Int))).drew w.heap.size 82 [.int .u64 (a : Int), .int .u64 (b : Int), .int .u64 (c : Int), .int .u64 (d : Int)]) := hid (Row.far HRX4.out (p := ⟨g, k * 4 + 3, none⟩) HNEG.out _)
 have HTF := hid (Fr.turn (p := p) (va := va) (vt := vt) w4 (k * 4 + 3) (.int .u64 ((S.A[k].cre + d : Nat) : Int)) HG.out).drew
 clear c3
 obtain ⟨n1, hn1⟩ : ∃ n, S.A[k].cre = n := ⟨_, rfl⟩
 rw [hn1] at gc HT HTR HTF e2
 clear hn1
 refine wp_region_held_drew (S := fun w' => w'.cell? ⟨w.heap.size, 3, none⟩ = some (.int .u64 (d : Int))) (by kernel_rfl) HC3.out (fun hH => ?_)
 refine tk_ (i := 0) (v := .pointer (some ⟨g, k * 4, none⟩)) rfl (Or.inl ⟨by rfl, fun w' hw' => by clear hw' ; go_simp⟩) hH ?_
 simp only [Act.put]
 refine tk_ (i := 1) (v := .pointer (some ⟨g, k * 4, none⟩)) rfl (Or.inl ⟨by rfl, fun w' hw' => by clear hw' ; go_simp⟩) hH ?_
 simp only [Act.put]
 refine tk_ (i := 2) (v := .pointer (some ⟨g, k * 4 + 3, none⟩)) rfl (Or.inl ⟨by rfl, fun w' hw' => by clear hw' ; go_simp⟩) hH ?_
 simp only [Act.put]
 refine tk_ (i := 4) (v := .pointer (some ⟨w.heap.size, 3, none⟩)) rfl (Or.inl ⟨by rfl, fun w' hw' => by clear hw' ; go_simp⟩) hH ?_
 simp only [Act.put]
 refine tk_ (i := 5) (v := .int .u64 (d : Int)) rfl (Or.inl ⟨by rfl, fun w' hw' => by have h := hw'; go_simp⟩) hH ?_
 simp only [Act.put]
 refine rd1 (i := 3) (by kernel_rfl) rfl (fun K hK => ?_)
 go_simp
 refine hK.out _ _ hH (fun hH => ?_)
 clear hK K
 refine tk_ (i := 6) (v := .int .u64 ((n1 + d : Nat) : Int)) rfl (Or.inl ⟨by rfl, fun w' hw' => by clear hw' ; go_simp⟩) hH ?_
 simp only [Act.put]
 refine tk_ (i := 7) (v := .pointer (some ⟨g, k * 4, none⟩)) rfl (Or.inl ⟨by rfl, fun w' hw' => by clear hw' ; go_simp⟩) hH ?_
 simp only [Act.put]
 refine tk_ (i := 8) (v := .pointer (some ⟨g, k * 4 + 3, none⟩)) rfl (Or.inl ⟨by rfl, fun w' hw' => by clear hw' ; go_simp⟩) hH ?_
 simp only [Act.put]
 refine rd1 (i := 9) (by kernel_rfl) rfl (fun K hK => ?_)
 go_simp
 refine hK.out _ _ ((World.cell?_setCell_far _ _ _ _ (Ne.symm HNEG.out)).trans hH) (fun hH => ?_)
 clear hK K hH
 refine wpAnyH_done (by kernel_rfl) ?_ _
 try simp only [Act.put]
 clear gc gf HC3 e2
 rw [Int.natCast_add] at HT HTR HTF
 generalize (w4.setCell ⟨g, k * 4 + 3, none⟩ (.int .u64 ((n1 : Int) + (d : Int)))).drew = w5 at *
 go_wp2_with fail
 have HRX5 := hid HTR.out
 have h5 := hid HT.out
 have HF5 := hid (HF4.out.trans HTF.out (fun b hb _ => hb))
 clear HTR HT HTF
 rw [← HP.out] at h5
 have HRX := hid HRX5.out
 have HRG : Hid (w5.drew.rangeAt w.heap.size 0 [.int .u64 (a : Int), .int .u64 (b : Int), .int .u64 (c : Int), .int .u64 (d : Int)]) := hid fun j v hv => by rw [Nat.zero_add]; exact HRX.out.at_ j v hv
 have hc3 := h5.out.c1
 have HC := hid hc3
 have HLT := hid h5.out.box.lt
 clear h3 h4 HRX3 HRX4 HRX5 HF4 HB3
 have HNP : Hid ((⟨p, 1, none⟩ : Addr).block ≠ w.heap.size) := HNEP
 refine wp_region_held_drew (S := fun w' => w'.rangeAt w.heap.size 0 [.int .u64 (a : Int), .int .u64 (b : Int), .int .u64 (c : Int), .int .u64 (d : Int)]) (by kernel_rfl) HRG.out (fun hH => ?_)
 refine tk_ (i := 0) (v := .pointer (some ⟨p, 0, none⟩)) rfl (Or.inl ⟨by rfl, fun w' hw' => by clear hw' ; go_simp⟩) hH ?_
 simp only [Act.put]
 refine tk_ (i := 1) (v := .pointer (some ⟨p, 0, none⟩)) rfl (Or.inl ⟨by rfl, fun w' hw' => by clear hw' ; go_simp⟩) hH ?_
 simp only [Act.put]
 refine tk_ (i := 2) (v := .pointer (some ⟨p, 0, none⟩)) rfl (Or.inl ⟨by rfl, fun w' hw' => by clear hw' ; go_simp⟩) hH ?_
 simp only [Act.put]
 refine tk_ (i := 3) (v := .pointer (some ⟨p, 1, none⟩)) rfl (Or.inl ⟨by rfl, fun w' hw' => by clear hw' ; go_simp⟩) hH ?_
 simp only [Act.put]
 refine tk_ (i := 5) (v := .agg ([.int .u64 (a : Int), .int .u64 (b : Int), .int .u64 (c : Int), .int .u64 (d : Int)]).toArray) rfl
  (yieldsIf_load_mid (by rfl) 82 (.tmp 3) rfl w.heap.size 0 rfl _ _ (fun _ hw => hw) Tryz.underlying82 rfl trSize) hH ?_
 simp only [Act.put]
 obtain ⟨i0, hi, hz0, hz1, hz2⟩ := info_parts trInfo
 have hnews : Hid (∀ j u, ([.int .u64 (a : Int), .int .u64 (b : Int), .int .u64 (c : Int), .int .u64 (d : Int)])[j]? = some u → ((w5).drew.alloc (.cells ([.int .u64 (a : Int), .int .u64 (b : Int), .int .u64 (c : Int), .int .u64 (d : Int)]).toArray 82)).cell? ((⟨(w5).heap.size, 0, none⟩ : Addr).add j) = some u) := hid (by
  have := World.news_of_block (heap_alloc_new (w5).drew (.cells ([.int .u64 (a : Int), .int .u64 (b : Int), .int .u64 (c : Int), .int .u64 (d : Int)]).toArray 82))
  simpa using this)
 refine wpAnyH_ready (rs := [4, 6]) (by kernel_rfl) (by simp) ?_
 refine AllReadyH.cons rfl (fun K hK => ?_) (AllReadyH.cons rfl (fun K hK => ?_) AllReadyH.nil)
 ·
  go_simp
  refine hK.out _ _ hH (fun hH => ?_)
  clear hK K
  refine rd1 (i := 6) (by kernel_rfl) rfl (fun K hK => ?_)
  rw [if_pos (by rfl)]
  refine wp_slice1 55 82 (.tmp 46) rfl i0 _ 4 Tryz.underlying55 hi hz0 hz1 (by decide) (by decide) [.int .u64 (a : Int), .int .u64 (b : Int), .int .u64 (c : Int), .int .u64 (d : Int)] rfl rfl ?_
  simp only [Act.put]
  refine hK.out _ _ (World.rangeAt_alloc hH _) (fun hH => ?_)
  clear hK K
  refine rd1 (i := 7) (by kernel_rfl) rfl (fun K hK => ?_)
  refine step_append_lies _ rfl (.tmp 45) (.tmp 47) 55 rfl 0 82 i0 _ 4 32 Tryz.underlying55 hi hz0 hz1 hz2 rfl (by decide) vt S.T.length _ rfl ((h5.out.trs.drew).alloc _) ⟨w5.heap.size, 0, none⟩ 1 1 [.int .u64 (a : Int), .int .u64 (b : Int), .int .u64 (c : Int), .int .u64 (d : Int)] rfl rfl hnews.out cs_one (by decide) (le_maxLen (by omega)) (by omega) (Nat.zero_le _) (w5.heap.size + 1) (by simp) ?_
  intro g' cap w9 ho4 hg4 hat hlt4
  have HAP := hid (app_factst h5.out HRX.out HNE.out hg4)
  have hH4 := HAP.out.2.2
  simp only [Act.put]
  refine hK.out _ _ hH4 (fun hH => ?_)
  clear hK K hH4
  refine tk_ (i := 8) (v := .pointer (some ⟨p, 0, none⟩)) rfl (Or.inl ⟨by rfl, fun w' hw' => by clear hw' ; go_simp⟩) hH ?_
  simp only [Act.put]
  refine tk_ (i := 9) (v := .pointer (some ⟨p, 1, none⟩)) rfl (Or.inl ⟨by rfl, fun w' hw' => by clear hw' ; go_simp⟩) hH ?_
  simp only [Act.put]
  have c4 := HAP.out.1.at_ 1 _ rfl
  have f4 := HAP.out.1.frozen 1
  have HO4 := hid ho4
  have HAT := hid hat
  clear ho4 hat hg4
  refine rd1 (i := 10) (by kernel_rfl) rfl (fun K hK => ?_)
  go_simp
  refine hK.out _ _ (fun j v hv => (World.cell?_setCell_far _ _ _ _ HNP.out).trans (hH j v hv)) (fun hH => ?_)
  clear hK K hH
  refine wpAnyH_done (by kernel_rfl) ?_ _
  try simp only [Act.put]
  have HM := hid (h5.out.moreT (X := 96) (x := XN) HAP.out.2.1 (by have h := HO4.out; rw [← HEX.out] at h; exact h) (vend HAT.out) HROOM.out HXN.out)
  clear c4 f4
  generalize (w9.setCell ⟨p, 1, none⟩ (.slice (some ⟨g', 0, none⟩) (S.T.length + 1) cap)) = w10 at *
  go_wp2_with (go_at_call 109; refine (HO.out _).mono ?_; rintro e w6 ⟨rfl, hb6⟩)
  go_ret
  refine ⟨rfl, Gw.below ⟨fpG p va (.slice (some ⟨g', 0, none⟩) (S.T.length + 1) cap), ⟨_, _, rfl, HM.out.1⟩, ?_, ?_⟩ hb6⟩
  ·
   exact HF5.out.trans HM.out.2.1 (by intro b hb _; exact hb)
  ·
   intro b hb
   rcases HM.out.2.2 b hb with h | h
   ·
    exact .inl h
   ·
    have := HF5.out.size
    right; omega
 ·
  rw [if_pos (by rfl)]
  refine wp_slice1 55 82 (.tmp 46) rfl i0 _ 4 Tryz.underlying55 hi hz0 hz1 (by decide) (by decide) [.int .u64 (a : Int), .int .u64 (b : Int), .int .u64 (c : Int), .int .u64 (d : Int)] rfl rfl ?_
  simp only [Act.put]
  refine hK.out _ _ (World.rangeAt_alloc hH _) (fun hH => ?_)
  clear hK K
  have c32 : ((w5).alloc (.cells ([.int .u64 (a : Int), .int .u64 (b : Int), .int .u64 (c : Int), .int .u64 (d : Int)]).toArray 82)).cell? ⟨p, 1, none⟩ = some vt := (World.cell?_alloc_lt _ _ _ HLT.out).trans HC.out
  refine rd1 (i := 4) (by kernel_rfl) rfl (fun K hK => ?_)
  go_simp
  refine hK.out _ _ hH (fun hH => ?_)
  clear hK K c32
  refine rd1 (i := 7) (by kernel_rfl) rfl (fun K hK => ?_)
  refine step_append_lies _ rfl (.tmp 45) (.tmp 47) 55 rfl 0 82 i0 _ 4 32 Tryz.underlying55 hi hz0 hz1 hz2 rfl (by decide) vt S.T.length _ rfl ((h5.out.trs.drew).alloc _) ⟨w5.heap.size, 0, none⟩ 1 1 [.int .u64 (a : Int), .int .u64 (b : Int), .int .u64 (c : Int), .int .u64 (d : Int)] rfl rfl hnews.out cs_one (by decide) (le_maxLen (by omega)) (by omega) (Nat.zero_le _) (w5.heap.size + 1) (by simp) ?_
  intro g' cap w9 ho4 hg4 hat hlt4
  have HAP := hid (app_factst h5.out HRX.out HNE.out hg4)
  have hH4 := HAP.out.2.2
  simp only [Act.put]
  refine hK.out _ _ hH4 (fun hH => ?_)
  clear hK K hH4
  refine tk_ (i := 8) (v := .pointer (some ⟨p, 0, none⟩)) rfl (Or.inl ⟨by rfl, fun w' hw' => by clear hw' ; go_simp⟩) hH ?_
  simp only [Act.put]
  refine tk_ (i := 9) (v := .pointer (some ⟨p, 1, none⟩)) rfl (Or.inl ⟨by rfl, fun w' hw' => by clear hw' ; go_simp⟩) hH ?_
  simp only [Act.put]
  have c4 := HAP.out.1.at_ 1 _ rfl
  have f4 := HAP.out.1.frozen 1
  have HO4 := hid ho4
  have HAT := hid hat
  clear ho4 hat hg4
  refine rd1 (i := 10) (by kernel_rfl) rfl (fun K hK => ?_)
  go_simp
  refine hK.out _ _ (fun j v hv => (World.cell?_setCell_far _ _ _ _ HNP.out).trans (hH j v hv)) (fun hH => ?_)
  clear hK K hH
  refine wpAnyH_done (by kernel_rfl) ?_ _
  try simp only [Act.put]
  have HM := hid (h5.out.moreT (X := 96) (x := XN) HAP.out.2.1 (by have h := HO4.out; rw [← HEX.out] at h; exact h) (vend HAT.out) HROOM.out HXN.out)
  clear c4 f4
  generalize (w9.setCell ⟨p, 1, none⟩ (.slice (some ⟨g', 0, none⟩) (S.T.length + 1) cap)) = w10 at *
  go_wp2_with (go_at_call 109; refine (HO.out _).mono ?_; rintro e w6 ⟨rfl, hb6⟩)
  go_ret
  refine ⟨rfl, Gw.below ⟨fpG p va (.slice (some ⟨g', 0, none⟩) (S.T.length + 1) cap), ⟨_, _, rfl, HM.out.1⟩, ?_, ?_⟩ hb6⟩
  ·
   exact HF5.out.trans HM.out.2.1 (by intro b hb _; exact hb)
  ·
   intro b hb
   rcases HM.out.2.2 b hb with h | h
   ·
    exact .inl h
   ·
    have := HF5.out.size
    right; omega
end

section
variable (p : Nat) (va vt : Value) (S : Lg) (a b c d : Nat) (w : World) (h : HasG w 96 p va vt S)
include h in
theorem maket_no (hd : U64 d) (k : Nat) (hj : S.jt ⟨a, b, c, d⟩ = k) (hk : k ≠ 0) (hk2 : k ≤ 10) :
  Calls Tryz.prog 90 #[.pointer (some ⟨p, 0, none⟩), .agg #[.int .u64 (a : Int), .int .u64 (b : Int), .int .u64 (c : Int), .int .u64 (d : Int)]] w (SE w [UInt8.ofNat k]) := by
 have HA := hid (fun W (hW : Below w.heap.size w W) => account_any p va vt S b W (h.below hW))
 have HB := hid (fun W (hW : Below w.heap.size w W) => account_any p va vt S c W (h.below hW))
 have HJ := hid (fun W (hW : Below w.heap.size w W) => judget_any p va vt S ⟨a, b, c, d⟩ W (h.below hW) hd)
 rw [hj] at HJ
 have HJ2 : Hid (∀ W, Below w.heap.size w W → Calls Tryz.prog 128 #[.pointer (some ⟨p, 0, none⟩), .agg #[.int .u64 (a : Int), .int .u64 (b : Int), .int .u64 (c : Int), .int .u64 (d : Int)], ptF va S b, ptF va S c] W (VE W (.int .i64 (k : Int)))) := hid HJ.out
 have HO := hid (fun W => onebyte_any k W (by omega))
 have hz : ((k : Int) == 0) = false := ne_nat hk
 have HRW := hid (show Row (w.alloc (.cells #[.int .u64 (a : Int), .int .u64 (b : Int), .int .u64 (c : Int), .int .u64 (d : Int)] 82)) w.heap.size 82 [.int .u64 (a : Int), .int .u64 (b : Int), .int .u64 (c : Int), .int .u64 (d : Int)] from Row.new _ _ _)
 have HB0 := hid ((Below.refl w.heap.size w).alloc (Nat.le_refl _) (.cells #[.int .u64 (a : Int), .int .u64 (b : Int), .int .u64 (c : Int), .int .u64 (d : Int)] 82))
 generalize ptF va S b = PD at *
 generalize ptF va S c = PC at *
 clear HJ h hj hk
 have HRANGE := hid (show ∀ W : World, Row W w.heap.size 82 [.int .u64 (a : Int), .int .u64 (b : Int), .int .u64 (c : Int), .int .u64 (d : Int)] → W.cell? ⟨w.heap.size, 1, none⟩ = some (.int .u64 (b : Int)) ∧ W.cell? ⟨w.heap.size, 2, none⟩ = some (.int .u64 (c : Int)) ∧ W.cell? ⟨w.heap.size, 3, none⟩ = some (.int .u64 (d : Int)) from fun W hr => ⟨hr.at_ 1 _ rfl, hr.at_ 2 _ rfl, hr.at_ 3 _ rfl⟩)
 go_enter Tryz.func90, Tryz.ntmps90
 go_wp2_with fail
 have HC1 := hid (fun W (hW : Kp (w.alloc (.cells #[.int .u64 (a : Int), .int .u64 (b : Int), .int .u64 (c : Int), .int .u64 (d : Int)] 82)) W) => (HRANGE.out W (HRW.out.below hW (by simp))).1)
 have HC2 := hid (fun W (hW : Kp (w.alloc (.cells #[.int .u64 (a : Int), .int .u64 (b : Int), .int .u64 (c : Int), .int .u64 (d : Int)] 82)) W) => (HRANGE.out W (HRW.out.below hW (by simp))).2.1)
 have HB1 := hid (fun W (hW : Kp (w.alloc (.cells #[.int .u64 (a : Int), .int .u64 (b : Int), .int .u64 (c : Int), .int .u64 (d : Int)] 82)) W) => HB0.out.trans (Below.mono hW (by simp)))
 refine wp_region_held_drew (S := fun w' => Kp (w.alloc (.cells #[.int .u64 (a : Int), .int .u64 (b : Int), .int .u64 (c : Int), .int .u64 (d : Int)] 82)) w') (by kernel_rfl) (Kp.refl _).drew (fun hH => ?_)
 refine tk_ (i := 0) (v := .pointer (some ⟨p, 0, none⟩)) rfl (Or.inl ⟨by rfl, fun w' hw' => by clear hw' ; go_simp⟩) hH ?_
 simp only [Act.put]
 refine tk_ (i := 1) (v := .pointer (some ⟨w.heap.size, 1, none⟩)) rfl (Or.inl ⟨by rfl, fun w' hw' => by clear hw' ; go_simp⟩) hH ?_
 simp only [Act.put]
 refine tk_ (i := 2) (v := .int .u64 (b : Int)) rfl (Or.inl ⟨by rfl, fun w' hw' => by have h := HC1.out w' hw'; go_simp⟩) hH ?_
 simp only [Act.put]
 refine tk_ (i := 4) (v := .pointer (some ⟨p, 0, none⟩)) rfl (Or.inl ⟨by rfl, fun w' hw' => by clear hw' ; go_simp⟩) hH ?_
 simp only [Act.put]
 refine tk_ (i := 5) (v := .pointer (some ⟨w.heap.size, 2, none⟩)) rfl (Or.inl ⟨by rfl, fun w' hw' => by clear hw' ; go_simp⟩) hH ?_
 simp only [Act.put]
 refine tk_ (i := 6) (v := .int .u64 (c : Int)) rfl (Or.inl ⟨by rfl, fun w' hw' => by have h := HC2.out w' hw'; go_simp⟩) hH ?_
 simp only [Act.put]
 refine rd1 (i := 3) (by kernel_rfl) rfl (fun K hK => ?_)
 go_simp
 go_at_call 127
 refine (HA.out _ (HB1.out _ hH)).mono ?_
 rintro e w1 ⟨rfl, hb1⟩
 go_wp2_with fail
 refine hK.out _ _ (Kp.call hb1 hH) (fun hH => ?_)
 clear hK K
 try simp only [Act.put]
 refine rd1 (i := 7) (by kernel_rfl) rfl (fun K hK => ?_)
 go_simp
 go_at_call 127
 refine (HB.out _ (HB1.out _ hH)).mono ?_
 rintro e w2 ⟨rfl, hb2⟩
 go_wp2_with fail
 refine hK.out _ _ (Kp.call hb2 hH) (fun hH => ?_)
 clear hK K
 try simp only [Act.put]
 refine rd1 (i := 8) (by kernel_rfl) rfl (fun K hK => ?_)
 go_simp
 refine hK.out _ _ (hH) (fun hH => ?_)
 clear hK K
 try simp only [Act.put]
 refine rd1 (i := 9) (by kernel_rfl) rfl (fun K hK => ?_)
 go_simp
 refine hK.out _ _ (hH) (fun hH => ?_)
 clear hK K
 try simp only [Act.put]
 refine wpAnyH_done (by kernel_rfl) ?_ _
 try simp only [Act.put]
 have HRX2 := hid (HRW.out.below hH (by simp))
 have HB2 := hid (HB1.out _ hH)
 clear hH HC1 HC2 HB1 HA HB hb1 hb2 HRW HB0
 go_wp2_with (first
  | (refine wpList_load_row rfl 82 (.tmp 3) rfl w.heap.size rfl 82 ([.int .u64 (a : Int), .int .u64 (b : Int), .int .u64 (c : Int), .int .u64 (d : Int)] : List Value).toArray (0, 0) _ HRX2.out Tryz.underlying82 rfl trSize ?_)
  | (go_at_call 128; refine (HJ2.out _ HB2.out).mono ?_; rintro e w3 ⟨rfl, hb3⟩)
  | (go_at_call 109; refine (HO.out _).mono ?_; rintro e w6 ⟨rfl, hb6⟩))
 go_ret
 exact ⟨rfl, HB2.out.trans ((hb3.trans (hb6.mono hb3.size)).mono HB2.out.size)⟩
end
theorem maket_any (p : Nat) (fp : List Nat) (S : Lg) (x : Tr) (w : World) (h : Gk 96 p S fp w) (hx : x.ok) :
  Calls Tryz.prog 90 #[.pointer (some ⟨p, 0, none⟩), .agg x.cells.toArray] w fun e w' => e = .returned (.string ⟨(mkt S x).2.toArray⟩) ∧ Gw 96 p w fp (mkt S x).1 w' := by
 obtain ⟨va, vt, rfl, h⟩ := h
 obtain ⟨a, b, c, d⟩ := x
 unfold mkt Lg.mov
 by_cases hj : S.jt ⟨a, b, c, d⟩ = 0
 ·
  rw [if_pos hj, hj]
  have hm := Lg.moves hj
  have hi : S.fa b < S.A.length := hm.hb
  have hk : S.fa c < S.A.length := hm.hc
  obtain ⟨g, c', -, -, hg⟩ := own_some h.accs (by omega : 0 < S.A.length)
  exact maket_yes p g (S.fa b) (S.fa c) va vt S a b c d w h hx hm hj hg rfl rfl hi hk
 ·
  rw [if_neg hj]
  refine (maket_no p va vt S a b c d w h hx.2.2.2 _ rfl hj (S.jt_le _)).mono fun e w' hh => ⟨hh.1, ?_⟩
  exact (Gw.start ⟨va, vt, rfl, h⟩).below hh.2
end Go.Proofs.YtgednnjmcjhfmaaGreatDoor
