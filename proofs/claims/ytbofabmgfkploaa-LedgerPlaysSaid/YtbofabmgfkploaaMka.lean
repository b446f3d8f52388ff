/-
  The walk of package ledger's makeAccount.
-/
import Derived.Test.YtbofabmgfkploaaJa
import Derived.BigRegion
import Derived.Deep.RegionHeld
namespace Go.Proofs.Ytbofabmgfkploaa
open Go.RowKit
set_option maxRecDepth 10000

theorem cs_one4 {a b c d : Value} (ha : a.oneCell' = true) (hb : b.oneCell' = true) (hc : c.oneCell' = true) (hd : d.oneCell' = true) : ∀ u ∈ [a, b, c, d], u.oneCell' = true := by
  intro u hu
  simp only [List.mem_cons, List.not_mem_nil, or_false] at hu
  rcases hu with rfl | rfl | rfl | rfl <;> assumption
theorem vend {va : Value} {g H cap n : Nat} (h : va.ownBlock = some g ∨ g = H + 1) : ∀ b, (Value.slice (some ⟨g, 0, none⟩) n cap).ownBlock = some b → va.ownBlock = some b ∨ H ≤ b := by
  intro b hb
  obtain rfl : g = b := by simpa [Value.ownBlock] using hb
  rcases h with h | h
  · exact .inl h
  · right; omega
section
variable {w3 w4 : World} {X p g1 : Nat} {T1 : TypeId} {va vt : Value} {S : Lg} {ob : Obj} {xs : List Value}
theorem app_factsa (h3 : HasG w3 X p va vt S) (hr : Row w3 g1 T1 xs) (hne : ∀ b ∈ fpG p va vt, b ≠ g1) (hg : (w3.drew.alloc ob).grownBy w4 va.ownBlock) :
    Row w4 p X [va, vt] ∧ Fr w3 w4 va.ownBlock.toList ∧ w4.rangeAt g1 0 xs := by
  have hf : Fr w3 w4 va.ownBlock.toList := ((Fr.refl w3 va.ownBlock.toList).drew.alloc ob).grown hg (by intro b hb; exact .inl (by simp [hb]))
  refine ⟨hf.row h3.box (by simpa using h3.n1), hf, ?_⟩
  have hr4 := hf.row hr (by
    simp
    intro e
    exact hne g1 (by simp [fpG, e]) rfl)
  intro j v hv
  rw [Nat.zero_add]
  exact hr4.at_ j v hv
theorem app_factst (h3 : HasG w3 X p va vt S) (hr : Row w3 g1 T1 xs) (hne : ∀ b ∈ fpG p va vt, b ≠ g1) (hg : (w3.drew.alloc ob).grownBy w4 vt.ownBlock) :
    Row w4 p X [va, vt] ∧ Fr w3 w4 vt.ownBlock.toList ∧ w4.rangeAt g1 0 xs := by
  have hf : Fr w3 w4 vt.ownBlock.toList := ((Fr.refl w3 vt.ownBlock.toList).drew.alloc ob).grown hg (by intro b hb; exact .inl (by simp [hb]))
  refine ⟨hf.row h3.box (by simpa using h3.n2), hf, ?_⟩
  have hr4 := hf.row hr (by
    simp
    intro e
    exact hne g1 (by simp [fpG, e]) rfl)
  intro j v hv
  rw [Nat.zero_add]
  exact hr4.at_ j v hv
end

set_option maxHeartbeats 1000000 in
theorem makea_yes (p : Nat) (va vt : Value) (S : Lg) (id : Nat) (fl : Int) (db cr : Nat) (w : World) (h : HasG w 63 p va vt S) (hx : (⟨id, fl, db, cr⟩ : Ac).flat) (hj : S.ja ⟨id, fl, db, cr⟩ = 0) (h8 : S.A.length + 1 ≤ 8) :
    Calls Try.prog 28 #[.pointer (some ⟨p, 0, none⟩), .agg #[.int .u64 (id : Int), .int .i64 fl, .int .u64 (db : Int), .int .u64 (cr : Int)]] w fun e w' => e = .returned (.string ⟨[0].toArray⟩) ∧ Gw 63 p w (fpG p va vt) ⟨S.A ++ [⟨id, fl, db, cr⟩], S.T⟩ w' := by
  have HJ := hid (fun W (hW : Below w.heap.size w W) => judgea_any p va vt S ⟨id, fl, db, cr⟩ W (h.below hW))
  rw [hj] at HJ
  have HJ2 : Hid (∀ W, Below w.heap.size w W → Calls Try.prog 68 #[.pointer (some ⟨p, 0, none⟩), .agg #[.int .u64 (id : Int), .int .i64 fl, .int .u64 (db : Int), .int .u64 (cr : Int)]] W (VE W (.int .i64 0))) := hid HJ.out
  have HO : Hid (∀ W, Calls Try.prog 69 #[.int .i64 0] W (SE W [0])) := hid (fun W => onebyte_any 0 W (by decide))
  have HH := hid h
  have hlw := HH.out.lt
  have HLW := hid hlw
  have HROOM := hid h8
  have HXN := hid hx
  have hn8 : S.A.length ≤ 8 := by omega
  have cs_one : ∀ u ∈ ([.int .u64 (id : Int), .int .i64 fl, .int .u64 (db : Int), .int .u64 (cr : Int)] : List Value), u.oneCell' = true := cs_one4 rfl rfl rfl rfl
  have HRW := hid (show Row (w.alloc (.cells #[.int .u64 (id : Int), .int .i64 fl, .int .u64 (db : Int), .int .u64 (cr : Int)] 45)) w.heap.size 45 [.int .u64 (id : Int), .int .i64 fl, .int .u64 (db : Int), .int .u64 (cr : Int)] from Row.new _ _ _)
  obtain ⟨XN, hXN⟩ : ∃ XN : Ac, XN = ⟨id, fl, db, cr⟩ := ⟨_, rfl⟩
  rw [← hXN] at HXN ⊢
  have HEX : Hid (XN.cells = [.int .u64 (id : Int), .int .i64 fl, .int .u64 (db : Int), .int .u64 (cr : Int)]) := hid (by rw [hXN]; rfl)
  clear HJ h hj hx hlw h8 hXN
  go_enter Try.func28, Try.ntmps28
  go_wp2_with (go_at_call 68; refine (HJ2.out _ ((Below.refl _ _).alloc (Nat.le_refl _) _)).mono ?_; rintro e w3 ⟨rfl, hb3⟩)
  have hb0 : Below w.heap.size w w3 := ((Below.refl _ _).alloc (Nat.le_refl _) _).trans (hb3.mono (by simp))
  have h3 := hid (HH.out.below hb0)
  have HRX := hid (HRW.out.below hb3 (by simp))
  have HRG : Hid (w3.drew.rangeAt w.heap.size 0 [.int .u64 (id : Int), .int .i64 fl, .int .u64 (db : Int), .int .u64 (cr : Int)]) := hid fun j v hv => by rw [Nat.zero_add]; exact HRX.out.at_ j v hv
  have HNE : Hid (∀ b ∈ fpG p va vt, b ≠ w.heap.size) := hid fun b hb => by have := HLW.out b hb; omega
  have HNEP : Hid (p ≠ w.heap.size) := hid (HNE.out p (by simp [fpG]))
  have hc3 := h3.out.c0
  have HC := hid hc3
  have HLT := hid h3.out.box.lt
  have HB0 := hid hb0
  clear hb3 hb0 HJ2 HRW
  have HNP : Hid ((⟨p, 0, none⟩ : Addr).block ≠ w.heap.size) := HNEP
  refine wp_region_held_drew (S := fun w' => w'.rangeAt w.heap.size 0 [.int .u64 (id : Int), .int .i64 fl, .int .u64 (db : Int), .int .u64 (cr : Int)]) (by kernel_rfl) HRG.out (fun hH => ?_)
  refine wpAnyH_take (i := 0) (v := .pointer (some ⟨p, 0, none⟩)) rfl (by kernel_rfl) (by kernel_rfl) (by kernel_rfl) (fun _ _ _ h => h) (Or.inl ⟨by rfl, fun w' hw' => by clear hw' ; go_simp⟩) hH ?_
  simp only [Act.put]
  refine wpAnyH_take (i := 1) (v := .pointer (some ⟨p, 0, none⟩)) rfl (by kernel_rfl) (by kernel_rfl) (by kernel_rfl) (fun _ _ _ h => h) (Or.inl ⟨by rfl, fun w' hw' => by clear hw' ; go_simp⟩) hH ?_
  simp only [Act.put]
  refine wpAnyH_take (i := 2) (v := .pointer (some ⟨p, 0, none⟩)) rfl (by kernel_rfl) (by kernel_rfl) (by kernel_rfl) (fun _ _ _ h => h) (Or.inl ⟨by rfl, fun w' hw' => by clear hw' ; go_simp⟩) hH ?_
  simp only [Act.put]
  refine wpAnyH_take (i := 3) (v := .pointer (some ⟨p, 0, none⟩)) rfl (by kernel_rfl) (by kernel_rfl) (by kernel_rfl) (fun _ _ _ h => h) (Or.inl ⟨by rfl, fun w' hw' => by clear hw' ; go_simp⟩) hH ?_
  simp only [Act.put]
  refine wpAnyH_take (i := 5) (v := .agg ([.int .u64 (id : Int), .int .i64 fl, .int .u64 (db : Int), .int .u64 (cr : Int)]).toArray) rfl (by kernel_rfl) (by kernel_rfl) (by kernel_rfl) (fun _ _ _ h => h)
    (yieldsIf_load_mid (by rfl) 45 (.tmp 3) rfl w.heap.size 0 rfl _ _ (fun _ hw => hw) Try.underlying45 rfl acSize) hH ?_
  simp only [Act.put]
  obtain ⟨i0, hi, hz0, hz1, hz2⟩ := info_parts acInfo
  have hnews : Hid (∀ j u, ([.int .u64 (id : Int), .int .i64 fl, .int .u64 (db : Int), .int .u64 (cr : Int)])[j]? = some u → ((w3).drew.alloc (.cells ([.int .u64 (id : Int), .int .i64 fl, .int .u64 (db : Int), .int .u64 (cr : Int)]).toArray 45)).cell? ((⟨(w3).heap.size, 0, none⟩ : Addr).add j) = some u) := hid (by
    have := World.news_of_block (heap_alloc_new (w3).drew (.cells ([.int .u64 (id : Int), .int .i64 fl, .int .u64 (db : Int), .int .u64 (cr : Int)]).toArray 45))
    simpa using this)
  refine wpAnyH_ready (rs := [4, 6]) (by kernel_rfl) (by simp) ?_
  refine AllReadyH.cons rfl (fun K hK => ?_) (AllReadyH.cons rfl (fun K hK => ?_) AllReadyH.nil)
  · go_simp
    refine hK.out _ _ hH (fun hH => ?_)
    clear hK K
    refine wpAnyH_ready (rs := [6]) (by kernel_rfl) (by simp) ?_
    refine AllReadyH.cons rfl (fun K hK => ?_) AllReadyH.nil
    rw [if_pos (by rfl)]
    refine wp_slice1 27 45 (.tmp 16) rfl i0 _ 4 Try.underlying27 hi hz0 hz1 (by decide) (by decide) [.int .u64 (id : Int), .int .i64 fl, .int .u64 (db : Int), .int .u64 (cr : Int)] rfl rfl ?_
    simp only [Act.put]
    refine hK.out _ _ (World.rangeAt_alloc hH _) (fun hH => ?_)
    clear hK K
    refine wpAnyH_ready (rs := [7]) (by kernel_rfl) (by simp) ?_
    refine AllReadyH.cons rfl (fun K hK => ?_) AllReadyH.nil
    refine step_append_lies _ rfl (.tmp 15) (.tmp 17) 27 rfl 0 45 i0 _ 4 32 Try.underlying27 hi hz0 hz1 hz2 rfl (by decide) va S.A.length _ rfl ((h3.out.accs.drew).alloc _) ⟨w3.heap.size, 0, none⟩ 1 1 [.int .u64 (id : Int), .int .i64 fl, .int .u64 (db : Int), .int .u64 (cr : Int)] rfl rfl hnews.out cs_one (by decide) (le_maxLen (by omega)) (by omega) (Nat.zero_le _) (w3.heap.size + 1) (by simp) ?_
    intro g cap w4 ho4 hg4 hat hlt4
    have HAP := hid (app_factsa h3.out HRX.out HNE.out hg4)
    have hH4 := HAP.out.2.2
    simp only [Act.put]
    refine hK.out _ _ hH4 (fun hH => ?_)
    clear hK K hH4
    refine wpAnyH_take (i := 8) (v := .pointer (some ⟨p, 0, none⟩)) rfl (by kernel_rfl) (by kernel_rfl) (by kernel_rfl) (fun _ _ _ h => h) (Or.inl ⟨by rfl, fun w' hw' => by clear hw' ; go_simp⟩) hH ?_
    simp only [Act.put]
    refine wpAnyH_take (i := 9) (v := .pointer (some ⟨p, 0, none⟩)) rfl (by kernel_rfl) (by kernel_rfl) (by kernel_rfl) (fun _ _ _ h => h) (Or.inl ⟨by rfl, fun w' hw' => by clear hw' ; go_simp⟩) hH ?_
    simp only [Act.put]
    have c4 := HAP.out.1.at_ 0 _ rfl
    have f4 := HAP.out.1.frozen 0
    have HO4 := hid ho4
    have HAT := hid hat
    clear ho4 hat hg4
    refine wpAnyH_ready (rs := [10]) (by kernel_rfl) (by simp) ?_
    refine AllReadyH.cons rfl (fun K hK => ?_) AllReadyH.nil
    go_simp
    refine hK.out _ _ (fun j v hv => (World.cell?_setCell_far _ _ _ _ HNP.out).trans (hH j v hv)) (fun hH => ?_)
    clear hK K hH
    refine wpAnyH_done (by kernel_rfl) ?_ _
    try simp only [Act.put]
    have HM := hid (h3.out.moreA (X := 63) (x := XN) HAP.out.2.1 (by have h := HO4.out; rw [← HEX.out] at h; exact h) (vend HAT.out) HROOM.out HXN.out)
    clear c4 f4
    generalize (w4.setCell ⟨p, 0, none⟩ (.slice (some ⟨g, 0, none⟩) (S.A.length + 1) cap)) = w5 at *
    go_wp2_with (go_at_call 69; refine (HO.out _).mono ?_; rintro e w6 ⟨rfl, hb6⟩)
    go_ret
    refine ⟨rfl, Gw.below ⟨fpG p (.slice (some ⟨g, 0, none⟩) (S.A.length + 1) cap) vt, ⟨_, _, rfl, HM.out.1⟩, ?_, ?_⟩ hb6⟩
    · exact ((Fr.of_below HB0.out).mono (fq := fpG p va vt) (by simp)).trans HM.out.2.1 (by intro b hb _; exact hb)
    · intro b hb
      rcases HM.out.2.2 b hb with h | h
      · exact .inl h
      · have := HB0.out.size
        right; omega
  · rw [if_pos (by rfl)]
    refine wp_slice1 27 45 (.tmp 16) rfl i0 _ 4 Try.underlying27 hi hz0 hz1 (by decide) (by decide) [.int .u64 (id : Int), .int .i64 fl, .int .u64 (db : Int), .int .u64 (cr : Int)] rfl rfl ?_
    simp only [Act.put]
    refine hK.out _ _ (World.rangeAt_alloc hH _) (fun hH => ?_)
    clear hK K
    have c32 : ((w3).alloc (.cells ([.int .u64 (id : Int), .int .i64 fl, .int .u64 (db : Int), .int .u64 (cr : Int)]).toArray 45)).cell? ⟨p, 0, none⟩ = some va := (World.cell?_alloc_lt _ _ _ HLT.out).trans HC.out
    refine wpAnyH_ready (rs := [4]) (by kernel_rfl) (by simp) ?_
    refine AllReadyH.cons rfl (fun K hK => ?_) AllReadyH.nil
    go_simp
    refine hK.out _ _ hH (fun hH => ?_)
    clear hK K c32
    refine wpAnyH_ready (rs := [7]) (by kernel_rfl) (by simp) ?_
    refine AllReadyH.cons rfl (fun K hK => ?_) AllReadyH.nil
    refine step_append_lies _ rfl (.tmp 15) (.tmp 17) 27 rfl 0 45 i0 _ 4 32 Try.underlying27 hi hz0 hz1 hz2 rfl (by decide) va S.A.length _ rfl ((h3.out.accs.drew).alloc _) ⟨w3.heap.size, 0, none⟩ 1 1 [.int .u64 (id : Int), .int .i64 fl, .int .u64 (db : Int), .int .u64 (cr : Int)] rfl rfl hnews.out cs_one (by decide) (le_maxLen (by omega)) (by omega) (Nat.zero_le _) (w3.heap.size + 1) (by simp) ?_
    intro g cap w4 ho4 hg4 hat hlt4
    have HAP := hid (app_factsa h3.out HRX.out HNE.out hg4)
    have hH4 := HAP.out.2.2
    simp only [Act.put]
    refine hK.out _ _ hH4 (fun hH => ?_)
    clear hK K hH4
    refine wpAnyH_take (i := 8) (v := .pointer (some ⟨p, 0, none⟩)) rfl (by kernel_rfl) (by kernel_rfl) (by kernel_rfl) (fun _ _ _ h => h) (Or.inl ⟨by rfl, fun w' hw' => by clear hw' ; go_simp⟩) hH ?_
    simp only [Act.put]
    refine wpAnyH_take (i := 9) (v := .pointer (some ⟨p, 0, none⟩)) rfl (by kernel_rfl) (by kernel_rfl) (by kernel_rfl) (fun _ _ _ h => h) (Or.inl ⟨by rfl, fun w' hw' => by clear hw' ; go_simp⟩) hH ?_
    simp only [Act.put]
    have c4 := HAP.out.1.at_ 0 _ rfl
    have f4 := HAP.out.1.frozen 0
    have HO4 := hid ho4
    have HAT := hid hat
    clear ho4 hat hg4
    refine wpAnyH_ready (rs := [10]) (by kernel_rfl) (by simp) ?_
    refine AllReadyH.cons rfl (fun K hK => ?_) AllReadyH.nil
    go_simp
    refine hK.out _ _ (fun j v hv => (World.cell?_setCell_far _ _ _ _ HNP.out).trans (hH j v hv)) (fun hH => ?_)
    clear hK K hH
    refine wpAnyH_done (by kernel_rfl) ?_ _
    try simp only [Act.put]
    have HM := hid (h3.out.moreA (X := 63) (x := XN) HAP.out.2.1 (by have h := HO4.out; rw [← HEX.out] at h; exact h) (vend HAT.out) HROOM.out HXN.out)
    clear c4 f4
    generalize (w4.setCell ⟨p, 0, none⟩ (.slice (some ⟨g, 0, none⟩) (S.A.length + 1) cap)) = w5 at *
    go_wp2_with (go_at_call 69; refine (HO.out _).mono ?_; rintro e w6 ⟨rfl, hb6⟩)
    go_ret
    refine ⟨rfl, Gw.below ⟨fpG p (.slice (some ⟨g, 0, none⟩) (S.A.length + 1) cap) vt, ⟨_, _, rfl, HM.out.1⟩, ?_, ?_⟩ hb6⟩
    · exact ((Fr.of_below HB0.out).mono (fq := fpG p va vt) (by simp)).trans HM.out.2.1 (by intro b hb _; exact hb)
    · intro b hb
      rcases HM.out.2.2 b hb with h | h
      · exact .inl h
      · have := HB0.out.size
        right; omega

set_option maxHeartbeats 400000 in
theorem makea_no (p : Nat) (va vt : Value) (S : Lg) (id : Nat) (fl : Int) (db cr : Nat) (w : World) (h : HasG w 63 p va vt S) (k : Nat) (hj : S.ja ⟨id, fl, db, cr⟩ = k) (hk : k ≠ 0) (hk2 : k ≤ 10) :
    Calls Try.prog 28 #[.pointer (some ⟨p, 0, none⟩), .agg #[.int .u64 (id : Int), .int .i64 fl, .int .u64 (db : Int), .int .u64 (cr : Int)]] w (SE w [UInt8.ofNat k]) := by
  have HJ := hid (fun W (hW : Below w.heap.size w W) => judgea_any p va vt S ⟨id, fl, db, cr⟩ W (h.below hW))
  rw [hj] at HJ
  have HJ2 : Hid (∀ W, Below w.heap.size w W → Calls Try.prog 68 #[.pointer (some ⟨p, 0, none⟩), .agg #[.int .u64 (id : Int), .int .i64 fl, .int .u64 (db : Int), .int .u64 (cr : Int)]] W (VE W (.int .i64 (k : Int)))) := hid HJ.out
  have HO := hid (fun W => onebyte_any k W (by omega))
  have hz : ((k : Int) == 0) = false := ne_nat hk
  clear HJ h hj hk
  go_enter Try.func28, Try.ntmps28
  go_wp2_with (first
    | (go_at_call 68; refine (HJ2.out _ ((Below.refl _ _).alloc (Nat.le_refl _) _)).mono ?_; rintro e w3 ⟨rfl, hb3⟩)
    | (go_at_call 69; refine (HO.out _).mono ?_; rintro e w6 ⟨rfl, hb6⟩))
  go_ret
  exact ⟨rfl, ((Below.refl _ _).alloc (Nat.le_refl _) _).trans ((hb3.trans (hb6.mono hb3.size)).mono (by simp))⟩
theorem makea_any (p : Nat) (fp : List Nat) (S : Lg) (x : Ac) (w : World) (h : Gk 63 p S fp w) (hx : x.flat) :
    Calls Try.prog 28 #[.pointer (some ⟨p, 0, none⟩), .agg x.cells.toArray] w fun e w' => e = .returned (.string ⟨(mka S x).2.toArray⟩) ∧ Gw 63 p w fp (mka S x).1 w' := by
  obtain ⟨va, vt, rfl, h⟩ := h
  obtain ⟨id, fl, db, cr⟩ := x
  unfold mka Lg.opn
  by_cases hj : S.ja ⟨id, fl, db, cr⟩ = 0
  · rw [if_pos hj, hj]
    have h8 : S.A.length + 1 ≤ 8 := by
      have := (Lg.opn_wf h.wf _ hx).la
      unfold Lg.opn at this
      rw [if_pos hj] at this
      simpa using this
    exact makea_yes p va vt S id fl db cr w h hx hj h8
  · rw [if_neg hj]
    refine (makea_no p va vt S id fl db cr w h _ rfl hj (S.ja_le _)).mono fun e w' hh => ⟨hh.1, ?_⟩
    exact (Gw.start ⟨va, vt, rfl, h⟩).below hh.2
end Go.Proofs.Ytbofabmgfkploaa
