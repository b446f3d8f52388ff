/-
  The walk of the laws' Put.
-/
import Derived.Test.YtgednnjmcjhfmaaGreatDoorM24
import Derived.Test.YtgednnjmcjhfmaaGreatDoorM02
import Derived.Test.YtgednnjmcjhfmaaGreatDoorM26
import Derived.Test.YtgednnjmcjhfmaaGreatDoorM22
import Derived.Deep.AppendLies
import Derived.BigQuiet
import Derived.Deep.RegionHeld
namespace Go.Proofs.YtgednnjmcjhfmaaGreatDoor
open Go.RowKit
set_option maxRecDepth 10000
set_option maxHeartbeats 80000000
theorem entInfo : (Tryz.prog.info? 31).map (fun i => (i.zero, i.size, i.bytes)) = some (some (.agg en0.cl.toArray), 9, 80) := by kernel_rfl
theorem Row.range0 {w : World} {g : Nat} {e : TypeId} {xs : List Value} (h : Row w g e xs) : w.rangeAt g 0 xs := fun j v hv => by
 rw [Nat.zero_add, h.cell, hv]
theorem wp_store_stL {P : Program} {o : Oper} {a : Act} {w : World} {K : Act → World → Prop} {Q : Exit → Act → World → Prop} {T : TypeId} (x y : Operand) (ho : o.op = .store T x y) {n : Nat} (hn : (P.info? T).map (·.size) = some n)
  (g : Nat) (cs0 cs : List Value) (hx : a.eval x = .pointer (some ⟨g, 0, none⟩)) (hy : a.eval y = .agg cs.toArray) (hrow : Row w g T cs0) (h0 : cs0.length = n) (h1 : cs.length = n) (hone : cs.all (·.oneCell') = true)
  (hK : ∀ w', Row w' g T cs → w.grownBy w' (some g) → K (a.put o.dst undef) w') : o.wp P a w K Q :=
 wp_store_row T x y ho g cs.toArray hx hy T cs0.toArray hrow (by rw [hn, List.size_toArray, h1]) (by simp [h0, h1]) (by simpa using hone)
  (hK _ (by
   have := setRow_heap w g cs0.toArray cs.toArray T (0, 0) hrow
   exact this) (grownBy_setRow w g _))
/-- another block than the list's own is written -/
theorem own_grown {w w' : World} {B m n g : Nat} {e : TypeId} {v : Value} {xs : List Value} (h : w.ownsRow B e m v n xs) (hg : w.grownBy w' (some g)) (hn : v.ownBlock ≠ some g) : w'.ownsRow B e m v n xs := by
 refine ⟨h.1, ?_⟩
 rcases h.2 with h2 | ⟨b, cap, cur, rfl, a, hh, rest⟩
 ·
  exact .inl h2
 ·
  refine .inr ⟨b, cap, cur, rfl, a, (hg.block b (Array.getElem?_eq_some_iff.1 hh).1 (fun q => hn ?_)).trans hh, rest⟩
  cases q
  rfl
theorem own_ne {v : Value} {gz H g n c : Nat} (h : v.ownBlock = some gz ∨ gz = H) (hn : v.ownBlock ≠ some g) (hlt : g < H) : (Value.slice (some ⟨gz, 0, none⟩) n c).ownBlock ≠ some g := by
 intro e
 obtain rfl : gz = g := by simpa [Value.ownBlock] using e
 rcases h with h | h
 ·
  exact hn h
 ·
  omega
theorem put_law (A : Option Addr) (XS : List En) (n c : Nat) (w : World) (hf : Fd w) (hr : Rd w w.heap.size A (rows En.cl XS)) (hn : n = XS.length) (hbig : n ≤ 9223372036854775807) (hX : ∀ X ∈ XS, X.good) :
  Calls Tryz.prog 5 #[.slice A n c] w (LS En.cl w (put XS)) := by
 obtain ⟨i0, hi, hz0, hz1, hz2⟩ := info_parts entInfo
 have HZE := hid esize
 have HZM := hid msize
 have HF := hid hf
 have HR := hid hr
 have HN := hid hn
 have HG := hid (fun k (hk : k ≤ XS.length) (h60 : k ≤ 60) => pst_good XS hX k hk h60)
 have HXX := hid hX
 have HST := hid (fun k (hk : k < XS.length) => pst_succ XS k hk)
 have HEND := hid (fun k (hk : XS.length ≤ k) => pst_end XS k hk)
 have HB0 := hid ((Below.refl w.heap.size w).alloc (Nat.le_refl _) (.cells #[] 31))
 have HB1 := hid (HB0.out.alloc HB0.out.size (.cells #[.int .i64 0, .int .i64 0, .int .u64 0] 41))
 have HRM := hid (show Row ((w.alloc (.cells #[] 31)).alloc (.cells #[.int .i64 0, .int .i64 0, .int .u64 0] 41)) (w.heap.size + 1) 41 mk0.cl from by have := Row.new (w.alloc (.cells #[] 31)) 41 #[.int .i64 0, .int .i64 0, .int .u64 0]; simpa [Mk.cl, mk0, Mk.cells] using this)
 have HOW := hid (show (w.alloc (.cells #[] 31)).ownsRow w.heap.size 31 9 (.slice (some ⟨w.heap.size, 0, none⟩) 0 0) 0 [] from own_empty (Row.new _ _ #[]) (Nat.le_refl _))
 have NEWS := fun (W : World) (Y : List Value) => show ∀ j u, Y[j]? = some u → (W.alloc (.cells Y.toArray 31)).cell? ((⟨W.heap.size, 0, none⟩ : Addr).add j) = some u from fun j u hu => by have := World.news_of_block (heap_alloc_new W (.cells Y.toArray 31)) j u (by simpa using hu); exact this
 have HNEWS := hid NEWS
 clear hf hr hn hX NEWS
 go_enter Tryz.func5, Tryz.ntmps5
 go_wp2_with (refine wpl_store_st rfl (.tmp 4) (.tmp 8) rfl HZM.out (w.heap.size + 1) mk0.cl mk0.cl rfl rfl HRM.out ?_ (hid rfl) (hid rfl) (hid rfl); intro w2 hr2 hg2; have HR2 := hid hr2; have HO2 := hid (own_grown (HOW.out.alloc (.cells #[.int .i64 0, .int .i64 0, .int .u64 0] 41)) hg2 (by simp [Value.ownBlock])); have HB2 := hid (HB1.out.trans (below_grown hg2 (by omega) HB1.out.size)); clear hr2 hg2)
 go_loopw [3, 5] (fun ov iv wr => ∃ (k : Nat) (s : Mk × List En), k ≤ n ∧ k ≤ 60 ∧ iv = .int .i64 (k : Int) ∧ Hid (s = pst XS k) ∧ wr.ownsRow w.heap.size 31 9 ov k (rows En.cl s.2) ∧ Row wr (w.heap.size + 1) 41 s.1.cl ∧ Hid (ov.ownBlock ≠ some (w.heap.size + 1)) ∧ Below w.heap.size w wr) (fun _ iv _ => n - (intOf iv).toNat)
 case atStart => exact ⟨0, (mk0, []), by omega, by omega, rfl, hid rfl, HO2.out, HR2.out, hid (by simp [Value.ownBlock]), HB2.out⟩
 case round =>
  obtain ⟨k, s, hk, hk60, rfl, HS, ho, hgm, HNE, hbe⟩ := hrel
  have HO := hid ho
  have HGM := hid hgm
  have HBE := hid hbe
  clear ho hgm hbe
  by_cases hlt : k < n
  ·
   by_cases hlt60 : k < 60
   ·
    have hkl : k < XS.length := by rw [← HN.out]; exact hlt
    obtain ⟨ga, o, rfl⟩ := shape_of HR.out En.cl_len (by decide) (by omega)
    have HRX := hid (fun W (hW : Below w.heap.size w W) => range_of (HR.out.below hW (Nat.le_refl _)) En.cl_len hkl)
    obtain ⟨g1, g2, g3, g4⟩ := HG.out k (by omega) (by omega)
    rw [← HS.out] at g1
    have hxg := HXX.out _ (List.getElem_mem hkl)
    have hsuc := HST.out k hkl
    rw [← HS.out] at hsuc
    have heg := nextS_good g1 hxg
    have HNX := hid (fun W => next_any s.1 XS[k] W (Nat.le_trans hxg.2 (by omega)))
    have HRT := hid (fun W => eright_any (nextS s.1 XS[k]) W)
    have HMK := hid (fun W hW => emark_any (nextS s.1 XS[k]) heg.1 W hW)
    have HX9 := hid (En.cl_len XS[k])
    have HXO := hid (XS[k].cl_ones)
    have HZX : Hid ((Tryz.prog.info? 31).map (·.size) = some XS[k].cl.toArray.size) := hid (ecells_size XS[k])
    have HE9 := hid (En.cl_len (nextS s.1 XS[k]))
    have HZEL : Hid ((Tryz.prog.info? 31).map (·.size) = some (nextS s.1 XS[k]).cl.toArray.size) := hid (ecells_size _)
    have HEO := hid ((nextS s.1 XS[k]).cl_ones)
    have HE1 := hid ((nextS s.1 XS[k]).cl_all)
    have HM3 : Hid (s.1.cl.length = 3) := hid rfl
    have HZM3 : Hid ((Tryz.prog.info? 41).map (·.size) = some s.1.cl.toArray.size) := hid (mcells_size s.1)
    have HNX_ : Hid (∀ W : World, Calls Tryz.prog 23 #[.agg s.1.cl.toArray, .agg XS[k].cl.toArray] W (VE W (.agg (nextS s.1 XS[k]).cl.toArray))) := hid HNX.out
    have HRT_ : Hid (∀ W : World, Calls Tryz.prog 25 #[.agg (nextS s.1 XS[k]).cl.toArray] W (VE W (.bool (decide (Rt (nextS s.1 XS[k])))))) := hid HRT.out
    have HMK_ : Hid (∀ W : World, Fd W → Calls Tryz.prog 24 #[.agg (nextS s.1 XS[k]).cl.toArray] W (VE W (.agg (markE (nextS s.1 XS[k])).cl.toArray))) := hid HMK.out
    have HN3 : Hid ((markE (nextS s.1 XS[k])).cl.length = 3) := hid rfl
    have HN1 : Hid ((markE (nextS s.1 XS[k])).cl.all (·.oneCell') = true) := hid (by simp [Mk.cl, Mk.cells, Value.oneCell'])
    have hi0 : (0 : Int) ≤ (k : Int) := by omega
    have hi1 : (k : Int) < (n : Int) := by omega
    have hi2 : (k : Int) < 60 := by omega
    clear HNX HRT HMK g1 g2 g3 g4 hxg heg
    have NEWS := HNEWS.out
    by_cases hrt : Rt (nextS s.1 XS[k])
    ·
     have hp : putF s XS[k] = (markE (nextS s.1 XS[k]), s.2 ++ [nextS s.1 XS[k]]) := by unfold putF; rw [if_pos hrt]
     rw [decide_eq_true hrt] at HRT_
     rw [hp] at hsuc
     obtain ⟨s1, hs1⟩ : ∃ s1 : Mk × List En, s1 = (markE (nextS s.1 XS[k]), s.2 ++ [nextS s.1 XS[k]]) := ⟨_, rfl⟩
     have HS1 : Hid (s1 = pst XS (k + 1)) := hid (by rw [hs1, hsuc])
     have HL1 : Hid (rows En.cl s1.2 = rows En.cl s.2 ++ (nextS s.1 XS[k]).cl) := hid (by rw [hs1, rows_app, rows1])
     have HM1 : Hid (s1.1.cl = (markE (nextS s.1 XS[k])).cl) := hid (by rw [hs1])
     clear hs1 hp hsuc hrt
     generalize (markE (nextS s.1 XS[k])).cl = NL at *
     generalize (nextS s.1 XS[k]).cl = EL at *
     generalize (XS[k]).cl = X at *
     generalize s.1.cl = ML at *
     go_wp2_with fail
     try simp only [Act.put]
     refine wp_region_held_drew (S := fun W => Below wr.heap.size wr W) (by kernel_rfl) ((Below.refl _ _).drew) (fun hH => ?_)
     refine tk_ (i := 0) (v := .agg ML.toArray) rfl ?_ hH ?_
     ·
      refine yieldsIf_load_mid ?_ 41 (.tmp 4) ?_ (w.heap.size + 1) 0 ?_ ML _ (fun W hW => Row.range0 (HGM.out.below hW HGM.out.lt)) Tryz.underlying41 rfl HZM3.out
      all_goals kernel_rfl
     simp only [Act.put]
     refine tk_ (i := 1) (v := .slice (some ⟨ga, o, none⟩) n c) rfl (Or.inl ⟨by kernel_rfl, fun w' hw' => by clear hw'; go_simp⟩) hH ?_
     simp only [Act.put]
     refine tk_ (i := 2) (v := .int .i64 (k : Int)) rfl (Or.inl ⟨by kernel_rfl, fun w' hw' => by clear hw'; go_simp⟩) hH ?_
     simp only [Act.put]
     refine tk_ (i := 3) (v := .pointer (some ⟨ga, o + k * 9, none⟩)) rfl (Or.inl ⟨by kernel_rfl, fun w' hw' => by clear hw'; go_simp⟩) hH ?_
     simp only [Act.put]
     refine tk_ (i := 4) (v := .agg X.toArray) rfl ?_ hH ?_
     ·
      refine yieldsIf_load_mid ?_ 31 (.tmp 22) ?_ ga (o + k * 9) ?_ X _ (fun W hW => HRX.out W (HBE.out.trans (Below.mono hW HBE.out.size))) Tryz.underlying31 rfl HZX.out
      all_goals kernel_rfl
     simp only [Act.put]
     refine wpAnyH_ready (rs := [5, 6]) (by kernel_rfl) (by simp) ?_
     refine AllReadyH.cons rfl (fun K hK => ?_) (AllReadyH.cons rfl (fun K hK => ?_) AllReadyH.nil)
     ·
      rw [if_pos (by kernel_rfl)]
      go_simp
      go_at_call 23
      refine (HNX_.out _).mono ?_
      rintro e w5 ⟨rfl, hb5⟩
      go_wp2_with fail
      refine hK.out _ _ (hH.trans (Below.mono hb5 hH.size)) (fun hH => ?_)
      clear hK K
      try simp only [Act.put]
      have hgw : wr.heap.size ≤ w5.heap.size := hH.size
      refine rd1 (i := 6) (by kernel_rfl) rfl (fun K hK => ?_)
      rw [if_pos (by kernel_rfl)]
      go_simp
      refine hK.out _ _ (hH.alloc hH.size _) (fun hH => ?_)
      clear hK K
      try simp only [Act.put]
      have hrow : Row (w5.alloc (.cells #[.int .i64 0, .int .i64 0, .int .i64 0, .int .u64 0, .int .i64 0, .int .i64 0, .int .i64 0, .int .i64 0, .string ⟨#[]⟩] 31)) w5.heap.size 31 en0.cl := Row.new w5 31 #[.int .i64 0, .int .i64 0, .int .i64 0, .int .u64 0, .int .i64 0, .int .i64 0, .int .i64 0, .int .i64 0, .string ⟨#[]⟩]
      refine rd1 (i := 7) (by kernel_rfl) rfl (fun K hK => ?_)
      rw [if_pos (by kernel_rfl)]
      refine wp_store_stL (.tmp 6) (.tmp 24) rfl HZE.out w5.heap.size en0.cl EL rfl rfl hrow rfl HE9.out HE1.out (fun W6 hr6 hg6 => ?_)
      have hb6 : Below wr.heap.size wr W6 := hH.trans (below_grown hg6 hgw hH.size)
      refine hK.out _ _ hb6 (fun hH => ?_)
      clear hK K
      try simp only [Act.put]
      refine wpAnyH_done (by kernel_rfl) ?_ _
      try simp only [Act.put]
      have HRE := hid hr6
      have HGE : Hid (some w5.heap.size ≠ some (w.heap.size + 1)) := hid (by have h1 := HGM.out.lt; have h2 : wr.heap.size ≤ w5.heap.size := hgw; intro e; have := Option.some.inj e; omega)
      replace HGM := hid (HGM.out.below hb6 HGM.out.lt)
      replace HO := hid (own_below HO.out hb6)
      replace HBE := hid (HBE.out.trans (hb6.mono HBE.out.size))
      clear hr6 hg6 hb6 hrow hH
      generalize w5.heap.size = ge at *
      have HFD := hid (HF.out.below HBE.out HF.out.1)
      go_wp2_with (first
       | (refine wpList_load_row rfl 31 (.tmp 6) rfl ge rfl 31 EL.toArray (0, 0) _ HRE.out.arr' Tryz.underlying31 rfl HZEL.out ?_)
       | (go_at_call 25; refine (HRT_.out _).mono ?_; rintro e w7 ⟨rfl, hx⟩; replace HFD := hid (HFD.out.below hx HFD.out.1); replace HBE := hid (HBE.out.trans (hx.mono HBE.out.size)); replace HRE := hid (HRE.out.below hx HRE.out.lt); replace HGM := hid (HGM.out.below hx HGM.out.lt); replace HO := hid (own_below HO.out hx); clear hx)
       | (go_at_call 24; refine (HMK_.out _ HFD.out).mono ?_; rintro e w8 ⟨rfl, hx⟩; replace HFD := hid (HFD.out.below hx HFD.out.1); replace HBE := hid (HBE.out.trans (hx.mono HBE.out.size)); replace HRE := hid (HRE.out.below hx HRE.out.lt); replace HGM := hid (HGM.out.below hx HGM.out.lt); replace HO := hid (own_below HO.out hx); clear hx)
       | (refine wpl_store_st rfl (.tmp 4) (.tmp 28) rfl HZM.out (w.heap.size + 1) ML NL rfl rfl HGM.out ?_ (hid HM3.out) (hid HN3.out) (hid HN1.out); intro W9 hr9 hg9; replace HGM := hid hr9; replace HRE := hid (HRE.out.grown hg9 HGE.out); replace HBE := hid (HBE.out.trans (below_grown hg9 (by omega) HBE.out.size)); replace HO := hid (own_grown HO.out hg9 HNE.out); clear hr9 hg9)
       | (refine wpl_slice1 rfl 22 31 (.tmp 30) rfl i0 _ 9 Tryz.underlying22 hi hz0 hz1 (by decide) (by decide) EL rfl HE9.out ?_)
       | (refine wpList_append_lies _ rfl (.tmp 29) (.tmp 31) 22 rfl w.heap.size 31 i0 _ 9 80 Tryz.underlying22 hi hz0 hz1 hz2 rfl (by decide) _ k _ rfl (HO.out.alloc _) ⟨W9.heap.size, 0, none⟩ 1 1 EL rfl HE9.out (NEWS W9 EL) HEO.out (by decide) (le_maxLen (by omega)) (by omega) (by have := HBE.out.size; simp; omega) (W9.heap.size + 1) (by simp) ?_; intro gz cap wz hoz hgz hatz hltz; have HOZ := hid hoz; have HGZ := hid ((HGM.out.alloc _).grown hgz HNE.out.symm); have HBZ := hid ((HBE.out.alloc HBE.out.size _).grown hgz (by have := HBE.out.size; simp; omega) (fun b hb => (HO.out.lt b hb).1)); have HATZ := hid hatz; clear hoz hgz hatz hltz))
      exact ⟨⟨k + 1, s1, by omega, by omega, by go_num, hid HS1.out, by rw [HL1.out]; exact HOZ.out, by rw [HM1.out]; exact HGZ.out, hid (own_ne HATZ.out HNE.out (by have := HGM.out.lt; omega)), HBZ.out⟩, by simp [intOf]; omega⟩
     ·
      rw [if_pos (by kernel_rfl)]
      have hgw : wr.heap.size ≤ wr.heap.size := Nat.le_refl _
      go_simp
      refine hK.out _ _ (hH.alloc hH.size _) (fun hH => ?_)
      clear hK K
      try simp only [Act.put]
      have hrow0 : Row (wr.drew.alloc (.cells #[.int .i64 0, .int .i64 0, .int .i64 0, .int .u64 0, .int .i64 0, .int .i64 0, .int .i64 0, .int .i64 0, .string ⟨#[]⟩] 31)) wr.heap.size 31 en0.cl := Row.new wr.drew 31 #[.int .i64 0, .int .i64 0, .int .i64 0, .int .u64 0, .int .i64 0, .int .i64 0, .int .i64 0, .int .i64 0, .string ⟨#[]⟩]
      refine rd1 (i := 5) (by kernel_rfl) rfl (fun K hK => ?_)
      rw [if_pos (by kernel_rfl)]
      go_simp
      go_at_call 23
      refine (HNX_.out _).mono ?_
      rintro e w5 ⟨rfl, hb5⟩
      go_wp2_with fail
      refine hK.out _ _ (hH.trans (Below.mono hb5 hH.size)) (fun hH => ?_)
      clear hK K
      have hrow : Row w5 wr.heap.size 31 en0.cl := hrow0.below hb5 (by simp)
      clear hrow0
      try simp only [Act.put]
      refine rd1 (i := 7) (by kernel_rfl) rfl (fun K hK => ?_)
      rw [if_pos (by kernel_rfl)]
      refine wp_store_stL (.tmp 6) (.tmp 24) rfl HZE.out wr.heap.size en0.cl EL rfl rfl hrow rfl HE9.out HE1.out (fun W6 hr6 hg6 => ?_)
      have hb6 : Below wr.heap.size wr W6 := hH.trans (below_grown hg6 hgw hH.size)
      refine hK.out _ _ hb6 (fun hH => ?_)
      clear hK K
      try simp only [Act.put]
      refine wpAnyH_done (by kernel_rfl) ?_ _
      try simp only [Act.put]
      have HRE := hid hr6
      have HGE : Hid (some wr.heap.size ≠ some (w.heap.size + 1)) := hid (by have h1 := HGM.out.lt; have h2 : wr.heap.size ≤ wr.heap.size := hgw; intro e; have := Option.some.inj e; omega)
      replace HGM := hid (HGM.out.below hb6 HGM.out.lt)
      replace HO := hid (own_below HO.out hb6)
      replace HBE := hid (HBE.out.trans (hb6.mono HBE.out.size))
      clear hr6 hg6 hb6 hrow hH
      generalize wr.heap.size = ge at *
      have HFD := hid (HF.out.below HBE.out HF.out.1)
      go_wp2_with (first
       | (refine wpList_load_row rfl 31 (.tmp 6) rfl ge rfl 31 EL.toArray (0, 0) _ HRE.out.arr' Tryz.underlying31 rfl HZEL.out ?_)
       | (go_at_call 25; refine (HRT_.out _).mono ?_; rintro e w7 ⟨rfl, hx⟩; replace HFD := hid (HFD.out.below hx HFD.out.1); replace HBE := hid (HBE.out.trans (hx.mono HBE.out.size)); replace HRE := hid (HRE.out.below hx HRE.out.lt); replace HGM := hid (HGM.out.below hx HGM.out.lt); replace HO := hid (own_below HO.out hx); clear hx)
       | (go_at_call 24; refine (HMK_.out _ HFD.out).mono ?_; rintro e w8 ⟨rfl, hx⟩; replace HFD := hid (HFD.out.below hx HFD.out.1); replace HBE := hid (HBE.out.trans (hx.mono HBE.out.size)); replace HRE := hid (HRE.out.below hx HRE.out.lt); replace HGM := hid (HGM.out.below hx HGM.out.lt); replace HO := hid (own_below HO.out hx); clear hx)
       | (refine wpl_store_st rfl (.tmp 4) (.tmp 28) rfl HZM.out (w.heap.size + 1) ML NL rfl rfl HGM.out ?_ (hid HM3.out) (hid HN3.out) (hid HN1.out); intro W9 hr9 hg9; replace HGM := hid hr9; replace HRE := hid (HRE.out.grown hg9 HGE.out); replace HBE := hid (HBE.out.trans (below_grown hg9 (by omega) HBE.out.size)); replace HO := hid (own_grown HO.out hg9 HNE.out); clear hr9 hg9)
       | (refine wpl_slice1 rfl 22 31 (.tmp 30) rfl i0 _ 9 Tryz.underlying22 hi hz0 hz1 (by decide) (by decide) EL rfl HE9.out ?_)
       | (refine wpList_append_lies _ rfl (.tmp 29) (.tmp 31) 22 rfl w.heap.size 31 i0 _ 9 80 Tryz.underlying22 hi hz0 hz1 hz2 rfl (by decide) _ k _ rfl (HO.out.alloc _) ⟨W9.heap.size, 0, none⟩ 1 1 EL rfl HE9.out (NEWS W9 EL) HEO.out (by decide) (le_maxLen (by omega)) (by omega) (by have := HBE.out.size; simp; omega) (W9.heap.size + 1) (by simp) ?_; intro gz cap wz hoz hgz hatz hltz; have HOZ := hid hoz; have HGZ := hid ((HGM.out.alloc _).grown hgz HNE.out.symm); have HBZ := hid ((HBE.out.alloc HBE.out.size _).grown hgz (by have := HBE.out.size; simp; omega) (fun b hb => (HO.out.lt b hb).1)); have HATZ := hid hatz; clear hoz hgz hatz hltz))
      exact ⟨⟨k + 1, s1, by omega, by omega, by go_num, hid HS1.out, by rw [HL1.out]; exact HOZ.out, by rw [HM1.out]; exact HGZ.out, hid (own_ne HATZ.out HNE.out (by have := HGM.out.lt; omega)), HBZ.out⟩, by simp [intOf]; omega⟩
    ·
     have hp : putF s XS[k] = (s.1, s.2 ++ [XS[k]]) := by unfold putF; rw [if_neg hrt]
     rw [decide_eq_false hrt] at HRT_
     rw [hp] at hsuc
     obtain ⟨s1, hs1⟩ : ∃ s1 : Mk × List En, s1 = (s.1, s.2 ++ [XS[k]]) := ⟨_, rfl⟩
     have HS1 : Hid (s1 = pst XS (k + 1)) := hid (by rw [hs1, hsuc])
     have HL1 : Hid (rows En.cl s1.2 = rows En.cl s.2 ++ (XS[k]).cl) := hid (by rw [hs1, rows_app, rows1])
     have HM1 : Hid (s1.1.cl = s.1.cl) := hid (by rw [hs1])
     clear hs1 hp hsuc hrt
     generalize (markE (nextS s.1 XS[k])).cl = NL at *
     generalize (nextS s.1 XS[k]).cl = EL at *
     generalize (XS[k]).cl = X at *
     generalize s.1.cl = ML at *
     go_wp2_with fail
     try simp only [Act.put]
     refine wp_region_held_drew (S := fun W => Below wr.heap.size wr W) (by kernel_rfl) ((Below.refl _ _).drew) (fun hH => ?_)
     refine tk_ (i := 0) (v := .agg ML.toArray) rfl ?_ hH ?_
     ·
      refine yieldsIf_load_mid ?_ 41 (.tmp 4) ?_ (w.heap.size + 1) 0 ?_ ML _ (fun W hW => Row.range0 (HGM.out.below hW HGM.out.lt)) Tryz.underlying41 rfl HZM3.out
      all_goals kernel_rfl
     simp only [Act.put]
     refine tk_ (i := 1) (v := .slice (some ⟨ga, o, none⟩) n c) rfl (Or.inl ⟨by kernel_rfl, fun w' hw' => by clear hw'; go_simp⟩) hH ?_
     simp only [Act.put]
     refine tk_ (i := 2) (v := .int .i64 (k : Int)) rfl (Or.inl ⟨by kernel_rfl, fun w' hw' => by clear hw'; go_simp⟩) hH ?_
     simp only [Act.put]
     refine tk_ (i := 3) (v := .pointer (some ⟨ga, o + k * 9, none⟩)) rfl (Or.inl ⟨by kernel_rfl, fun w' hw' => by clear hw'; go_simp⟩) hH ?_
     simp only [Act.put]
     refine tk_ (i := 4) (v := .agg X.toArray) rfl ?_ hH ?_
     ·
      refine yieldsIf_load_mid ?_ 31 (.tmp 22) ?_ ga (o + k * 9) ?_ X _ (fun W hW => HRX.out W (HBE.out.trans (Below.mono hW HBE.out.size))) Tryz.underlying31 rfl HZX.out
      all_goals kernel_rfl
     simp only [Act.put]
     refine wpAnyH_ready (rs := [5, 6]) (by kernel_rfl) (by simp) ?_
     refine AllReadyH.cons rfl (fun K hK => ?_) (AllReadyH.cons rfl (fun K hK => ?_) AllReadyH.nil)
     ·
      rw [if_pos (by kernel_rfl)]
      go_simp
      go_at_call 23
      refine (HNX_.out _).mono ?_
      rintro e w5 ⟨rfl, hb5⟩
      go_wp2_with fail
      refine hK.out _ _ (hH.trans (Below.mono hb5 hH.size)) (fun hH => ?_)
      clear hK K
      try simp only [Act.put]
      have hgw : wr.heap.size ≤ w5.heap.size := hH.size
      refine rd1 (i := 6) (by kernel_rfl) rfl (fun K hK => ?_)
      rw [if_pos (by kernel_rfl)]
      go_simp
      refine hK.out _ _ (hH.alloc hH.size _) (fun hH => ?_)
      clear hK K
      try simp only [Act.put]
      have hrow : Row (w5.alloc (.cells #[.int .i64 0, .int .i64 0, .int .i64 0, .int .u64 0, .int .i64 0, .int .i64 0, .int .i64 0, .int .i64 0, .string ⟨#[]⟩] 31)) w5.heap.size 31 en0.cl := Row.new w5 31 #[.int .i64 0, .int .i64 0, .int .i64 0, .int .u64 0, .int .i64 0, .int .i64 0, .int .i64 0, .int .i64 0, .string ⟨#[]⟩]
      refine rd1 (i := 7) (by kernel_rfl) rfl (fun K hK => ?_)
      rw [if_pos (by kernel_rfl)]
      refine wp_store_stL (.tmp 6) (.tmp 24) rfl HZE.out w5.heap.size en0.cl EL rfl rfl hrow rfl HE9.out HE1.out (fun W6 hr6 hg6 => ?_)
      have hb6 : Below wr.heap.size wr W6 := hH.trans (below_grown hg6 hgw hH.size)
      refine hK.out _ _ hb6 (fun hH => ?_)
      clear hK K
      try simp only [Act.put]
      refine wpAnyH_done (by kernel_rfl) ?_ _
      try simp only [Act.put]
      have HRE := hid hr6
      have HGE : Hid (some w5.heap.size ≠ some (w.heap.size + 1)) := hid (by have h1 := HGM.out.lt; have h2 : wr.heap.size ≤ w5.heap.size := hgw; intro e; have := Option.some.inj e; omega)
      replace HGM := hid (HGM.out.below hb6 HGM.out.lt)
      replace HO := hid (own_below HO.out hb6)
      replace HBE := hid (HBE.out.trans (hb6.mono HBE.out.size))
      clear hr6 hg6 hb6 hrow hH
      generalize w5.heap.size = ge at *
      have HFD := hid (HF.out.below HBE.out HF.out.1)
      go_wp2_with (first
       | (refine wpList_load_row rfl 31 (.tmp 6) rfl ge rfl 31 EL.toArray (0, 0) _ HRE.out.arr' Tryz.underlying31 rfl HZEL.out ?_)
       | (go_at_call 25; refine (HRT_.out _).mono ?_; rintro e W9 ⟨rfl, hx⟩; replace HFD := hid (HFD.out.below hx HFD.out.1); replace HRG := hid (HRX.out _ (HBE.out.trans (hx.mono HBE.out.size))); replace HBE := hid (HBE.out.trans (hx.mono HBE.out.size)); replace HGM := hid (HGM.out.below hx HGM.out.lt); replace HO := hid (own_below HO.out hx); clear hx)
       | (refine wpList_load_mid rfl 31 (.tmp 36) rfl ga (o + k * 9) rfl X _ HRG.out Tryz.underlying31 rfl HZX.out ?_)
       | (refine wpl_slice1 rfl 22 31 (.tmp 37) rfl i0 _ 9 Tryz.underlying22 hi hz0 hz1 (by decide) (by decide) X rfl HX9.out ?_)
       | (refine wpList_append_lies _ rfl (.tmp 33) (.tmp 38) 22 rfl w.heap.size 31 i0 _ 9 80 Tryz.underlying22 hi hz0 hz1 hz2 rfl (by decide) _ k _ rfl (HO.out.alloc _) ⟨W9.heap.size, 0, none⟩ 1 1 X rfl HX9.out (NEWS W9 X) HXO.out (by decide) (le_maxLen (by omega)) (by omega) (by have := HBE.out.size; simp; omega) (W9.heap.size + 1) (by simp) ?_; intro gz cap wz hoz hgz hatz hltz; have HOZ := hid hoz; have HGZ := hid ((HGM.out.alloc _).grown hgz HNE.out.symm); have HBZ := hid ((HBE.out.alloc HBE.out.size _).grown hgz (by have := HBE.out.size; simp; omega) (fun b hb => (HO.out.lt b hb).1)); have HATZ := hid hatz; clear hoz hgz hatz hltz))
      exact ⟨⟨k + 1, s1, by omega, by omega, by go_num, hid HS1.out, by rw [HL1.out]; exact HOZ.out, by rw [HM1.out]; exact HGZ.out, hid (own_ne HATZ.out HNE.out (by have := HGM.out.lt; omega)), HBZ.out⟩, by simp [intOf]; omega⟩
     ·
      rw [if_pos (by kernel_rfl)]
      have hgw : wr.heap.size ≤ wr.heap.size := Nat.le_refl _
      go_simp
      refine hK.out _ _ (hH.alloc hH.size _) (fun hH => ?_)
      clear hK K
      try simp only [Act.put]
      have hrow0 : Row (wr.drew.alloc (.cells #[.int .i64 0, .int .i64 0, .int .i64 0, .int .u64 0, .int .i64 0, .int .i64 0, .int .i64 0, .int .i64 0, .string ⟨#[]⟩] 31)) wr.heap.size 31 en0.cl := Row.new wr.drew 31 #[.int .i64 0, .int .i64 0, .int .i64 0, .int .u64 0, .int .i64 0, .int .i64 0, .int .i64 0, .int .i64 0, .string ⟨#[]⟩]
      refine rd1 (i := 5) (by kernel_rfl) rfl (fun K hK => ?_)
      rw [if_pos (by kernel_rfl)]
      go_simp
      go_at_call 23
      refine (HNX_.out _).mono ?_
      rintro e w5 ⟨rfl, hb5⟩
      go_wp2_with fail
      refine hK.out _ _ (hH.trans (Below.mono hb5 hH.size)) (fun hH => ?_)
      clear hK K
      have hrow : Row w5 wr.heap.size 31 en0.cl := hrow0.below hb5 (by simp)
      clear hrow0
      try simp only [Act.put]
      refine rd1 (i := 7) (by kernel_rfl) rfl (fun K hK => ?_)
      rw [if_pos (by kernel_rfl)]
      refine wp_store_stL (.tmp 6) (.tmp 24) rfl HZE.out wr.heap.size en0.cl EL rfl rfl hrow rfl HE9.out HE1.out (fun W6 hr6 hg6 => ?_)
      have hb6 : Below wr.heap.size wr W6 := hH.trans (below_grown hg6 hgw hH.size)
      refine hK.out _ _ hb6 (fun hH => ?_)
      clear hK K
      try simp only [Act.put]
      refine wpAnyH_done (by kernel_rfl) ?_ _
      try simp only [Act.put]
      have HRE := hid hr6
      have HGE : Hid (some wr.heap.size ≠ some (w.heap.size + 1)) := hid (by have h1 := HGM.out.lt; have h2 : wr.heap.size ≤ wr.heap.size := hgw; intro e; have := Option.some.inj e; omega)
      replace HGM := hid (HGM.out.below hb6 HGM.out.lt)
      replace HO := hid (own_below HO.out hb6)
      replace HBE := hid (HBE.out.trans (hb6.mono HBE.out.size))
      clear hr6 hg6 hb6 hrow hH
      generalize wr.heap.size = ge at *
      have HFD := hid (HF.out.below HBE.out HF.out.1)
      go_wp2_with (first
       | (refine wpList_load_row rfl 31 (.tmp 6) rfl ge rfl 31 EL.toArray (0, 0) _ HRE.out.arr' Tryz.underlying31 rfl HZEL.out ?_)
       | (go_at_call 25; refine (HRT_.out _).mono ?_; rintro e W9 ⟨rfl, hx⟩; replace HFD := hid (HFD.out.below hx HFD.out.1); replace HRG := hid (HRX.out _ (HBE.out.trans (hx.mono HBE.out.size))); replace HBE := hid (HBE.out.trans (hx.mono HBE.out.size)); replace HGM := hid (HGM.out.below hx HGM.out.lt); replace HO := hid (own_below HO.out hx); clear hx)
       | (refine wpList_load_mid rfl 31 (.tmp 36) rfl ga (o + k * 9) rfl X _ HRG.out Tryz.underlying31 rfl HZX.out ?_)
       | (refine wpl_slice1 rfl 22 31 (.tmp 37) rfl i0 _ 9 Tryz.underlying22 hi hz0 hz1 (by decide) (by decide) X rfl HX9.out ?_)
       | (refine wpList_append_lies _ rfl (.tmp 33) (.tmp 38) 22 rfl w.heap.size 31 i0 _ 9 80 Tryz.underlying22 hi hz0 hz1 hz2 rfl (by decide) _ k _ rfl (HO.out.alloc _) ⟨W9.heap.size, 0, none⟩ 1 1 X rfl HX9.out (NEWS W9 X) HXO.out (by decide) (le_maxLen (by omega)) (by omega) (by have := HBE.out.size; simp; omega) (W9.heap.size + 1) (by simp) ?_; intro gz cap wz hoz hgz hatz hltz; have HOZ := hid hoz; have HGZ := hid ((HGM.out.alloc _).grown hgz HNE.out.symm); have HBZ := hid ((HBE.out.alloc HBE.out.size _).grown hgz (by have := HBE.out.size; simp; omega) (fun b hb => (HO.out.lt b hb).1)); have HATZ := hid hatz; clear hoz hgz hatz hltz))
      exact ⟨⟨k + 1, s1, by omega, by omega, by go_num, hid HS1.out, by rw [HL1.out]; exact HOZ.out, by rw [HM1.out]; exact HGZ.out, hid (own_ne HATZ.out HNE.out (by have := HGM.out.lt; omega)), HBZ.out⟩, by simp [intOf]; omega⟩
   ·
    have hi2 : ¬ (k : Int) < 60 := by omega
    have hi1 : (k : Int) < (n : Int) := by omega
    obtain rfl : k = 60 := by omega
    have hput : Hid (s.2 = put XS ∧ (put XS).length = 60) := hid (by
     obtain ⟨_, _, g3, _⟩ := HG.out 60 (by rw [← HN.out]; omega) (by omega)
     exact ⟨by rw [HS.out]; rfl, g3⟩)
    go_wp2_with fail
    go_ret
    obtain ⟨A2, c2, rfl, hc2, hrd2⟩ := own_rd HO.out
    have hnew := NewA.own HO.out
    have hp := hput.out
    rw [hp.1] at hrd2
    rw [← hp.2] at hc2
    exact ⟨A2, c2, by simp [hp.2], hc2, hrd2, HBE.out, hnew⟩
  ·
   have hi1 : ¬ (k : Int) < (n : Int) := by omega
   have hput : Hid (s.2 = put XS ∧ (put XS).length = k) := hid (by
    obtain ⟨_, _, g3, _⟩ := HG.out k (by rw [← HN.out]; omega) hk60
    have e1 : pst XS k = pst XS 60 := by rw [HEND.out k (by rw [← HN.out]; omega), HEND.out 60 (by rw [← HN.out]; omega)]
    unfold put
    rw [← e1]
    exact ⟨by rw [HS.out], g3⟩)
   go_wp2_with fail
   go_ret
   obtain ⟨A2, c2, rfl, hc2, hrd2⟩ := own_rd HO.out
   have hnew := NewA.own HO.out
   have hp := hput.out
   rw [hp.1] at hrd2
   rw [← hp.2] at hc2
   exact ⟨A2, c2, by simp [hp.2], hc2, hrd2, HBE.out, hnew⟩
end Go.Proofs.YtgednnjmcjhfmaaGreatDoor
