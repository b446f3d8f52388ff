/-
  The walks of the document's PutWhole and Whole.
-/
import Derived.Test.YtbofabmgfkploaaWholep
namespace Go.Proofs.Ytbofabmgfkploaa
open Go.RowKit
set_option maxRecDepth 10000

set_option maxHeartbeats 1000000 in
theorem rpw_any (x : Ac) (hx : x.ok) (w : World) : Calls Try.prog 49 #[.agg x.cells.toArray] w (SN w (wholeB x)) := by
  obtain ⟨id, fl, deb, cre⟩ := x
  obtain ⟨h1, -, h3, h4⟩ := hx
  simp only at h1 h3 h4
  have HF := hid (flags_any fl)
  have hflag : flagS fl = if 0 ≤ fl ∧ fl ≤ 255 then ([UInt8.ofNat fl.toNat], true) else ([], false) := rfl
  have hres : wholeB ⟨id, fl, deb, cre⟩ = if 0 ≤ fl ∧ fl ≤ 255 then (le id 8 ++ [UInt8.ofNat fl.toNat] ++ le deb 8 ++ le cre 8, 0) else ([], 1) := rfl
  rw [hres]
  rw [hflag] at HF
  have HE0 := hid (fun W => eight_any id W h1)
  have HE1 := hid (fun W => eight_any deb W h3)
  have HE2 := hid (fun W => eight_any cre W h4)
  have hl0 := le_len 8 id
  have hl1 := le_len 8 deb
  have hl2 := le_len 8 cre
  have HRW := hid (show Row (w.alloc (.cells #[.int .u64 (id : Int), .int .i64 fl, .int .u64 (deb : Int), .int .u64 (cre : Int)] 45)) w.heap.size 45 [.int .u64 (id : Int), .int .i64 fl, .int .u64 (deb : Int), .int .u64 (cre : Int)] from Row.new _ _ _)
  have HB0 := hid ((Below.refl w.heap.size w).alloc (Nat.le_refl _) (.cells #[.int .u64 (id : Int), .int .i64 fl, .int .u64 (deb : Int), .int .u64 (cre : Int)] 45))
  show Calls Try.prog 49 #[.agg #[.int .u64 (id : Int), .int .i64 fl, .int .u64 (deb : Int), .int .u64 (cre : Int)]] w _
  clear hres hflag
  by_cases h : 0 ≤ fl ∧ fl ≤ 255
  · rw [if_pos h] at HF ⊢
    generalize le id 8 = E0 at *
    generalize le deb 8 = E1 at *
    generalize le cre 8 = E2 at *
    generalize UInt8.ofNat fl.toNat = b at *
    have hq0 : ¬ (9223372036854775807 < E0.length + 1) := by omega
    have hq1 : ¬ (9223372036854775807 < E0.length + 1 + E1.length) := by omega
    have hq2 : ¬ (9223372036854775807 < E0.length + 1 + E1.length + E2.length) := by omega
    have HFIN : Hid (⟨E0.toArray⟩ ++ ⟨#[b]⟩ ++ ⟨E1.toArray⟩ ++ ⟨E2.toArray⟩ = (⟨(E0 ++ [b] ++ E1 ++ E2).toArray⟩ : ByteArray)) := hid (by rw [← cat_mk, ← cat_mk, ← cat_mk])
    clear hl0 hl1 hl2 h h1 h3 h4
    go_enter Try.func49, Try.ntmps49
    go_wp2_with (go_at_call 86; refine (HF.out _).mono ?_; rintro e1 w1 ⟨rfl, hb1⟩)
    have hr1 := HRW.out.below hb1 (by simp)
    have HC : Hid (∀ j v, ([.int .u64 (id : Int), .int .i64 fl, .int .u64 (deb : Int), .int .u64 (cre : Int)] : List Value)[j]? = some v → ∀ W, Kp w1 W → W.cell? ⟨w.heap.size, j, none⟩ = some v) := hid fun j v hv W hW => by
      rw [(hr1.below hW hr1.lt).cell]
      exact hv
    have HC0 := hid (HC.out 0 _ rfl)
    have HC2 := hid (HC.out 2 _ rfl)
    have HC3 := hid (HC.out 3 _ rfl)
    have HB1 := hid (HB0.out.trans (hb1.mono (by simp)))
    clear hr1 hb1
    refine wp_region_held_drew (S := fun w' => Kp w1 w') (by kernel_rfl) (Kp.refl _).drew (fun hH => ?_)
    refine wpAnyH_take (i := 0) (v := .pointer (some ⟨w.heap.size, 0, none⟩)) rfl (by kernel_rfl) (by kernel_rfl) (by kernel_rfl) (fun _ _ _ h => h) (Or.inl ⟨by rfl, fun w' hw' => by clear hw' ; go_simp⟩) hH ?_
    simp only [Act.put]
    refine wpAnyH_take (i := 1) (v := .int .u64 (id : Int)) rfl (by kernel_rfl) (by kernel_rfl) (by kernel_rfl) (fun _ _ _ h => h) (Or.inl ⟨by rfl, fun w' hw' => by have h := HC0.out w' hw'; go_simp⟩) hH ?_
    simp only [Act.put]
    refine wpAnyH_take (i := 3) (v := .string ⟨#[b]⟩) rfl (by kernel_rfl) (by kernel_rfl) (by kernel_rfl) (fun _ _ _ h => h) (Or.inl ⟨by rfl, fun w' hw' => by clear hw' ; go_simp⟩) hH ?_
    simp only [Act.put]
    refine wpAnyH_take (i := 5) (v := .pointer (some ⟨w.heap.size, 2, none⟩)) rfl (by kernel_rfl) (by kernel_rfl) (by kernel_rfl) (fun _ _ _ h => h) (Or.inl ⟨by rfl, fun w' hw' => by clear hw' ; go_simp⟩) hH ?_
    simp only [Act.put]
    refine wpAnyH_take (i := 6) (v := .int .u64 (deb : Int)) rfl (by kernel_rfl) (by kernel_rfl) (by kernel_rfl) (fun _ _ _ h => h) (Or.inl ⟨by rfl, fun w' hw' => by have h := HC2.out w' hw'; go_simp⟩) hH ?_
    simp only [Act.put]
    refine wpAnyH_take (i := 9) (v := .pointer (some ⟨w.heap.size, 3, none⟩)) rfl (by kernel_rfl) (by kernel_rfl) (by kernel_rfl) (fun _ _ _ h => h) (Or.inl ⟨by rfl, fun w' hw' => by clear hw' ; go_simp⟩) hH ?_
    simp only [Act.put]
    refine wpAnyH_take (i := 10) (v := .int .u64 (cre : Int)) rfl (by kernel_rfl) (by kernel_rfl) (by kernel_rfl) (fun _ _ _ h => h) (Or.inl ⟨by rfl, fun w' hw' => by have h := HC3.out w' hw'; go_simp⟩) hH ?_
    simp only [Act.put]
    refine wpAnyH_ready (rs := [2]) (by kernel_rfl) (by simp) ?_
    refine AllReadyH.cons rfl (fun K hK => ?_) AllReadyH.nil
    go_simp
    go_at_call 87
    refine (HE0.out _).mono ?_
    rintro e w2 ⟨rfl, hb2⟩
    go_wp2_with fail
    refine hK.out _ _ (Kp.call hb2 hH) (fun hH => ?_)
    clear hK K
    try simp only [Act.put]
    refine wpAnyH_take (i := 4) (v := .string (⟨E0.toArray⟩ ++ ⟨#[b]⟩)) rfl (by kernel_rfl) (by kernel_rfl) (by kernel_rfl) (fun _ _ _ h => h) (Or.inl ⟨by rfl, fun w' hw' => by clear hw' ; go_simp⟩) hH ?_
    simp only [Act.put]
    refine wpAnyH_ready (rs := [7]) (by kernel_rfl) (by simp) ?_
    refine AllReadyH.cons rfl (fun K hK => ?_) AllReadyH.nil
    go_simp
    go_at_call 87
    refine (HE1.out _).mono ?_
    rintro e w3 ⟨rfl, hb3⟩
    go_wp2_with fail
    refine hK.out _ _ (Kp.call hb3 hH) (fun hH => ?_)
    clear hK K
    try simp only [Act.put]
    refine wpAnyH_take (i := 8) (v := .string (⟨E0.toArray⟩ ++ ⟨#[b]⟩ ++ ⟨E1.toArray⟩)) rfl (by kernel_rfl) (by kernel_rfl) (by kernel_rfl) (fun _ _ _ h => h) (Or.inl ⟨by rfl, fun w' hw' => by clear hw' ; go_simp⟩) hH ?_
    simp only [Act.put]
    refine wpAnyH_ready (rs := [11]) (by kernel_rfl) (by simp) ?_
    refine AllReadyH.cons rfl (fun K hK => ?_) AllReadyH.nil
    go_simp
    go_at_call 87
    refine (HE2.out _).mono ?_
    rintro e w4 ⟨rfl, hb4⟩
    go_wp2_with fail
    refine hK.out _ _ (Kp.call hb4 hH) (fun hH => ?_)
    clear hK K
    try simp only [Act.put]
    refine wpAnyH_take (i := 12) (v := .string (⟨E0.toArray⟩ ++ ⟨#[b]⟩ ++ ⟨E1.toArray⟩ ++ ⟨E2.toArray⟩)) rfl (by kernel_rfl) (by kernel_rfl) (by kernel_rfl) (fun _ _ _ h => h) (Or.inl ⟨by rfl, fun w' hw' => by clear hw' ; go_simp⟩) hH ?_
    simp only [Act.put]
    refine wpAnyH_ready (rs := [13]) (by kernel_rfl) (by simp) ?_
    refine AllReadyH.cons rfl (fun K hK => ?_) AllReadyH.nil
    go_simp
    refine hK.out _ _ (hH) (fun hH => ?_)
    clear hK K
    try simp only [Act.put]
    refine wpAnyH_ready (rs := [14]) (by kernel_rfl) (by simp) ?_
    refine AllReadyH.cons rfl (fun K hK => ?_) AllReadyH.nil
    go_simp
    refine hK.out _ _ (hH) (fun hH => ?_)
    clear hK K
    try simp only [Act.put]
    refine wpAnyH_done (by kernel_rfl) ?_ _
    try simp only [Act.put]
    go_wp2_with fail
    go_ret2
    exact ⟨by rw [← HFIN.out]; rfl, HB1.out.trans (Below.mono hH HB1.out.size)⟩
  · rw [if_neg h] at HF ⊢
    clear hl0 hl1 hl2 h h1 h3 h4 HE0 HE1 HE2
    go_enter Try.func49, Try.ntmps49
    go_wp2_with (go_at_call 86; refine (HF.out _).mono ?_; rintro e1 w1 ⟨rfl, hb1⟩)
    go_ret2
    exact ⟨rfl, HB0.out.trans (hb1.mono (by simp))⟩

set_option maxHeartbeats 400000 in
theorem rwh_no (s : ByteArray) (w : World) (h : ((s.size : Int) != 25) = true) : Calls Try.prog 55 #[.string s] w (AB w (ac0.cells, false)) := by
  have HZ := hid acSize
  go_enter Try.func55, Try.ntmps55
  go_wp2_with (refine wpl_store_st rfl (.tmp 2) (.tmp 7) rfl HZ.out w.heap.size ac0.cells ac0.cells rfl rfl (Row.new w _ _) ?_ (hid rfl) (hid rfl) (hid rfl); intro w3 hr3 hg3)
  refine bodyPost_ret (results_cell1 rfl _ _ w.heap.size 45 ac0.cells.toArray (0, 0) _ (.bool false) rfl rfl hr3.arr' Try.underlying45 rfl HZ.out) rfl ⟨rfl, ?_⟩
  exact ((Below.refl _ _).alloc (Nat.le_refl _) _).trans (below_grown hg3 (Nat.le_refl _) (by simp))

theorem wp_store_st {P : Program} {o : Oper} {a : Act} {w : World} {K : Act → World → Prop} {Q : Exit → Act → World → Prop} {T : TypeId} (x y : Operand) (ho : o.op = .store T x y) {n : Nat} (hn : (P.info? T).map (·.size) = some n)
    (g : Nat) (cs0 cs : List Value) (hx : a.eval x = .pointer (some ⟨g, 0, none⟩)) (hy : a.eval y = .agg cs.toArray) (hrow : Row w g T cs0) (h0 : cs0.length = n) (h1 : cs.length = n) (hone : cs.all (·.oneCell') = true)
    (hK : ∀ w', Row w' g T cs → w.grownBy w' (some g) → K (a.put o.dst undef) w') : o.wp P a w K Q :=
  wp_store_row T x y ho g cs.toArray hx hy T cs0.toArray hrow (by rw [hn, List.size_toArray, h1]) (by simp [h0, h1]) (by simpa using hone)
    (hK _ (setRow_heap w g cs0.toArray cs.toArray T (0, 0) hrow) (grownBy_setRow w g _))

set_option maxHeartbeats 1000000 in
theorem rwh_yes (s : ByteArray) (w : World) (h : s.size = 25) : Calls Try.prog 55 #[.string s] w (AB w ((decW (sb s)).cells, true)) := by
  have HZ := hid acSize
  have hI : ((s.size : Int) != 25) = false := by rw [h]; rfl
  have h8 : 8 < s.size := by omega
  have hix : (8 : Int) < (s.size : Int) := by omega
  have hdec : (decW (sb s)).cells = [.int .u64 (at8 (sb s) 0 : Int), .int .i64 ((s[8]'h8).toNat : Int), .int .u64 (at8 (sb s) 9 : Int), .int .u64 (at8 (sb s) 17 : Int)] := by
    have e : (sb s).getD 8 0 = s[8]'h8 := by
      rw [List.getD, List.getElem?_eq_getElem (by rw [sb_len]; exact h8)]
      rfl
    unfold decW Ac.cells
    rw [e]
  have hb8 := UInt8.toNat_lt (s[8]'h8)
  have hw8 : IntKind.i64.wrap ((s[8]'h8).toNat : Int) = ((s[8]'h8).toNat : Int) := IntWalk.i64_in _ (by omega)
  have HA0 := hid (fun W => at_any s 0 W (by omega) (by omega))
  have HA1 := hid (fun W => at_any s 9 W (by omega) (by omega))
  have HA2 := hid (fun W => at_any s 17 W (by omega) (by omega))
  obtain ⟨b, hbb⟩ : ∃ b, (s[8]'h8).toNat = b := ⟨_, rfl⟩
  rw [hbb] at hdec hb8 hw8
  have HBB := hid hbb
  rw [hdec]
  clear hbb
  generalize at8 (sb s) 0 = x0 at *
  generalize at8 (sb s) 9 = x1 at *
  generalize at8 (sb s) 17 = x2 at *
  have HRW := hid (show Row (w.alloc (.cells ac0.cells.toArray 45)) w.heap.size 45 ac0.cells from Row.new _ _ _)
  have HB0 := hid ((Below.refl w.heap.size w).alloc (Nat.le_refl _) (.cells ac0.cells.toArray 45))
  have HA0' : Hid (∀ W : World, Calls Try.prog 81 #[.string s, .int .i64 0] W (VE W (.int .u64 (x0 : Int)))) := hid HA0.out
  have HA1' : Hid (∀ W : World, Calls Try.prog 81 #[.string s, .int .i64 9] W (VE W (.int .u64 (x1 : Int)))) := hid HA1.out
  have HA2' : Hid (∀ W : World, Calls Try.prog 81 #[.string s, .int .i64 17] W (VE W (.int .u64 (x2 : Int)))) := hid HA2.out
  clear hdec h HA0 HA1 HA2
  go_enter Try.func55, Try.ntmps55
  go_wp2_with fail
  refine wp_region_held_drew (S := fun w' => Below w.heap.size w w' ∧ ∃ cs : List Value, cs.length = 4 ∧ Row w' w.heap.size 45 cs) (by kernel_rfl) ⟨HB0.out.drew, ac0.cells, rfl, HRW.out⟩ (fun hH => ?_)
  refine wpAnyH_take (i := 0) (v := .string s) rfl (by kernel_rfl) (by kernel_rfl) (by kernel_rfl) (fun _ _ _ h => h) (Or.inl ⟨by rfl, fun w' hw' => by clear hw' ; go_simp⟩) hH ?_
  simp only [Act.put]
  refine wpAnyH_take (i := 2) (v := .string s) rfl (by kernel_rfl) (by kernel_rfl) (by kernel_rfl) (fun _ _ _ h => h) (Or.inl ⟨by rfl, fun w' hw' => by clear hw' ; go_simp⟩) hH ?_
  simp only [Act.put]
  refine wpAnyH_take (i := 3) (v := .int .u8 (b : Int)) rfl (by kernel_rfl) (by kernel_rfl) (by kernel_rfl) (fun _ _ _ h => h) (Or.inl ⟨by rfl, fun w' hw' => by have h := HBB.out; go_simp⟩) hH ?_
  simp only [Act.put]
  refine wpAnyH_take (i := 4) (v := .int .i64 (b : Int)) rfl (by kernel_rfl) (by kernel_rfl) (by kernel_rfl) (fun _ _ _ h => h) (Or.inl ⟨by rfl, fun w' hw' => by clear hw' ; go_simp⟩) hH ?_
  simp only [Act.put]
  refine wpAnyH_take (i := 5) (v := .string s) rfl (by kernel_rfl) (by kernel_rfl) (by kernel_rfl) (fun _ _ _ h => h) (Or.inl ⟨by rfl, fun w' hw' => by clear hw' ; go_simp⟩) hH ?_
  simp only [Act.put]
  refine wpAnyH_take (i := 7) (v := .string s) rfl (by kernel_rfl) (by kernel_rfl) (by kernel_rfl) (fun _ _ _ h => h) (Or.inl ⟨by rfl, fun w' hw' => by clear hw' ; go_simp⟩) hH ?_
  simp only [Act.put]
  refine wpAnyH_ready (rs := [1]) (by kernel_rfl) (by simp) ?_
  refine AllReadyH.cons rfl (fun K hK => ?_) AllReadyH.nil
  go_simp
  go_at_call 81
  refine (HA0'.out _).mono ?_
  rintro e w2 ⟨rfl, hb2⟩
  go_wp2_with fail
  refine hK.out _ _ (show _ from ⟨hH.1.trans (Below.mono hb2 hH.1.size), hH.2.elim fun cs h => ⟨cs, h.1, Row.below h.2 hb2 h.2.lt⟩⟩) (fun hH => ?_)
  clear hK K
  try simp only [Act.put]
  refine wpAnyH_ready (rs := [6]) (by kernel_rfl) (by simp) ?_
  refine AllReadyH.cons rfl (fun K hK => ?_) AllReadyH.nil
  go_simp
  go_at_call 81
  refine (HA1'.out _).mono ?_
  rintro e w3 ⟨rfl, hb3⟩
  go_wp2_with fail
  refine hK.out _ _ (show _ from ⟨hH.1.trans (Below.mono hb3 hH.1.size), hH.2.elim fun cs h => ⟨cs, h.1, Row.below h.2 hb3 h.2.lt⟩⟩) (fun hH => ?_)
  clear hK K
  try simp only [Act.put]
  refine wpAnyH_ready (rs := [8]) (by kernel_rfl) (by simp) ?_
  refine AllReadyH.cons rfl (fun K hK => ?_) AllReadyH.nil
  go_simp
  go_at_call 81
  refine (HA2'.out _).mono ?_
  rintro e w4 ⟨rfl, hb4⟩
  go_wp2_with fail
  refine hK.out _ _ (show _ from ⟨hH.1.trans (Below.mono hb4 hH.1.size), hH.2.elim fun cs h => ⟨cs, h.1, Row.below h.2 hb4 h.2.lt⟩⟩) (fun hH => ?_)
  clear hK K
  try simp only [Act.put]
  refine wpAnyH_ready (rs := [9]) (by kernel_rfl) (by simp) ?_
  refine AllReadyH.cons rfl (fun K hK => ?_) AllReadyH.nil
  go_simp
  refine hK.out _ _ (hH) (fun hH => ?_)
  clear hK K
  try simp only [Act.put]
  refine wpAnyH_ready (rs := [10]) (by kernel_rfl) (by simp) ?_
  refine AllReadyH.cons rfl (fun K hK => ?_) AllReadyH.nil
  obtain ⟨cs0, hl0, hr0⟩ := hH.2
  rw [if_pos (by rfl)]
  refine wp_store_st (.tmp 2) (.tmp 17) rfl HZ.out w.heap.size cs0 [.int .u64 (x0 : Int), .int .i64 (b : Int), .int .u64 (x1 : Int), .int .u64 (x2 : Int)] rfl rfl hr0 hl0 rfl rfl (fun w6 hr6 hg6 => ?_)
  have hb6 : Below w.heap.size w w6 := hH.1.trans (below_grown hg6 (Nat.le_refl _) hH.1.size)
  refine hK.out _ _ ⟨hb6, _, rfl, hr6⟩ (fun hH => ?_)
  clear hK K
  try simp only [Act.put]
  refine wpAnyH_ready (rs := [11]) (by kernel_rfl) (by simp) ?_
  refine AllReadyH.cons rfl (fun K hK => ?_) AllReadyH.nil
  go_simp
  refine hK.out _ _ (hH) (fun hH => ?_)
  clear hK K
  try simp only [Act.put]
  refine wpAnyH_done (by kernel_rfl) ?_ _
  try simp only [Act.put]
  go_wp2_with fail
  refine bodyPost_ret (results_cell1 rfl _ _ w.heap.size 45 _ (0, 0) _ (.bool true) rfl rfl hr6.arr' Try.underlying45 rfl HZ.out) rfl ⟨rfl, hb6⟩
theorem rwh_any (s : ByteArray) (w : World) : Calls Try.prog 55 #[.string s] w (AB w ((wholeS (sb s)).1.cells, (wholeS (sb s)).2)) := by
  unfold wholeS
  rw [sb_len]
  by_cases h : s.size = 25
  · rw [if_pos h]; exact rwh_yes s w h
  · rw [if_neg h]; exact rwh_no s w (bne_iff_ne.2 (by omega))
end Go.Proofs.Ytbofabmgfkploaa
