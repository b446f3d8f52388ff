/-
  The walk of MachineReads.
-/
import Derived.Test.YtdimlfjepliflaaGreatDoorD22
import Derived.Test.YtdimlfjepliflaaGreatDoorD25
import Derived.Test.YtdimlfjepliflaaGreatDoorD23
import Derived.Test.YtdimlfjepliflaaGreatDoorD10
import Derived.Deep.CutRange
import Derived.Deep.DeepCutAuto
import Derived.BigQuiet
import Derived.Deep.RegionHeld
namespace Go.Proofs.YtdimlfjepliflaaGreatDoor
open Go.RowKit
set_option maxRecDepth 10000

/-- these blocks are as they were, in a frame -/
def Kf (G : List Nat) (w w' : World) : Prop := ∃ fq, Fr w w' fq ∧ ∀ g ∈ G, g ∉ fq
theorem Sg.callF {w0 w : World} {X : K3} {p : Nat} {S S' : Ma} {G : List Nat} {P : Program} {f : FuncId} {args : Array Value} {v : Ending} (h : Sg w0 X p S G w) (H : ∀ fp, Hm X p S fp w → Calls P f args w fun e w' => e = v ∧ Hmw X p w fp S' w') : Calls P f args w fun e w' => e = v ∧ Sg w0 X p S' G w' ∧ Kf G w w' := by
  obtain ⟨fp, h1, h2, h3, h4⟩ := h
  refine (H fp h1).mono fun e w' hh => ⟨hh.1, ?_, ?_⟩
  · obtain ⟨fq, k1, k2, k3⟩ := hh.2
    refine ⟨fq, k1, fun b hb => ?_, fun g hg => ⟨Nat.lt_of_lt_of_le (h3 g hg).1 k2.size, fun hq => ?_⟩, h4.trans (k2.below h2 h4.size)⟩
    · rcases k3 b hb with h | h
      · exact h2 b h
      · exact Nat.le_trans h4.size h
    · rcases k3 g hq with h | h
      · exact (h3 g hg).2 h
      · have := (h3 g hg).1; omega
  · exact ⟨fp, hh.2.frame, fun g hg => (h3 g hg).2⟩
theorem Sg.addOwn {w0 w w' : World} {X : K3} {p : Nat} {S : Ma} {G : List Nat} {e m n : Nat} {v : Value} {xs : List Value} (h : Sg w0 X p S G w) (hb : Below w.heap.size w w') (ho : w'.ownsRow w.heap.size e m v n xs) : Sg w0 X p S (v.ownBlock.toList ++ G) w' := by
  cases hv : v.ownBlock with
  | none => simpa using h.below hb
  | some g =>
    obtain ⟨h1, h2⟩ := ho.lt g hv
    simpa using h.add hb h1 h2
set_option maxHeartbeats 16000000 in
theorem mreads_law (A : Option Addr) (n c : Nat) (XS : List En) (ids : ByteArray) (tr : Bool) (w : World) (hf : Fd w) (hn : n = XS.length) (_hc : n ≤ c) (hm : n ≤ 9223372036854775807) (hR : Rd w w.heap.size A (rows En.cl XS)) (hX : ∀ X ∈ XS, X.good) (hs : ids.size ≤ 140737488351232) : Calls Tryz.prog 7 #[.slice A n c, .string ids, .bool tr] w (Yes w) := by
  have HAW := hid (fun W hW => mawake_any W hW)
  have HPU := hid (fun W (hW : Below w.heap.size w W) => put_law A XS n c W (hf.below hW hf.1) ((hR.below hW (Nat.le_refl _)).more hW.size) hn hm hX)
  have HNW := hid (fun W => mnew_any W)
  have HF := hid hf
  have HZE := hid esize
  have HZ := hid asize
  have HZM := hid msize
  obtain ⟨hpg, hp60⟩ := put_good XS hX
  generalize put XS = L at *
  obtain ⟨nl, hnl⟩ : ∃ nl, nl = L.length := ⟨_, rfl⟩
  have HPU2 : Hid (∀ W, Below w.heap.size w W → Calls Tryz.prog 9 #[.slice A n c] W fun e w' => ∃ A1 c1, e = .returned (.slice A1 nl c1) ∧ nl ≤ c1 ∧ Rd w' w'.heap.size A1 (rows En.cl L) ∧ Below W.heap.size W w') := hid fun W hW => (HPU.out W hW).mono fun e w' hh => by
    obtain ⟨A1, c1, e1, h1, h2, h3, -⟩ := hh
    rw [← hnl] at e1 h1
    exact ⟨A1, c1, e1, h1, h2, h3⟩
  rw [← hnl] at hp60
  have HNL := hid hnl
  have HPG := hid hpg
  have HPA := hid (fun k (hk : k ≤ L.length) => playA_wf L hpg k hk)
  have HPS := hid (fun k (hk : k < L.length) => playA_succ L k hk)
  have HP0 := hid (playA_zero L)
  clear hf hn hR hX hpg hnl HPU
  go_enter Tryz.func7, Tryz.ntmps7
  go_wp2_with (first
    | (go_at_call 8; refine (HAW.out _ HF.out).mono ?_; rintro e wa ⟨rfl, hx⟩; have HBA := hid hx; clear hx)
    | (go_at_call 9; refine (HPU2.out _ HBA.out).mono ?_; rintro e w1 ⟨A1, c1, rfl, hc1, hr1, hx⟩; have HB1 := hid (HBA.out.trans (hx.mono HBA.out.size)); have HR1 := hid hr1; clear hx hr1)
    | (go_at_call 10; refine (HNW.out _).mono ?_; rintro e w2 ⟨p, fp, rfl, hk, hfp, hx⟩; have HS := hid (Sg.mk' (w0 := w1) (Below.refl _ _) hk hfp hx); clear hk hfp hx))
  have HF1 := hid (HF.out.below HB1.out HF.out.1)
  go_loopw [8] (fun iv wr => ∃ k : Nat, k ≤ nl ∧ iv = .int .i64 (k : Int) ∧ Sg w1 KP p (playA L k) [] wr) (fun iv _ => nl - (intOf iv).toNat)
  case atStart => exact ⟨0, by omega, rfl, by rw [HP0.out]; exact HS.out⟩
  case round =>
    obtain ⟨k, hk, rfl, hsr⟩ := hrel
    have HSR := hid hsr
    clear hsr HS
    by_cases hlt : k < nl
    · have hkl : k < L.length := by rw [← HNL.out]; exact hlt
      obtain ⟨ga, o, rfl⟩ := shape_of HR1.out En.cl_len (by decide) (by omega)
      have HRX := hid (fun W (hW : Below w1.heap.size w1 W) => range_of (HR1.out.below hW (Nat.le_refl _)) En.cl_len hkl)
      have HAP := hid (fun fp W hW hk => mapp_any p (playA L k) fp L[k] W (HPG.out _ (List.getElem_mem hkl)).1 hW hk)
      rw [← HPS.out k hkl] at HAP
      have HAP2 : Hid (∀ fp W, Fd W → Hm KP p (playA L k) fp W → Calls Tryz.prog 12 #[.pointer (some ⟨p, 0, none⟩), .agg L[k].cl.toArray] W fun x w' => x = .returned (.tuple #[((playA L k).appA L[k]).val, .int .i64 ((playA L k).appE L[k])]) ∧ Hmw KP p W fp (playA L (k + 1)) w') := hid HAP.out
      have HZX : Hid ((Tryz.prog.info? 31).map (·.size) = some L[k].cl.toArray.size) := hid (ecells_size L[k])
      have hi0 : (0 : Int) ≤ (k : Int) := by omega
      have hi1 : (k : Int) < (nl : Int) := by omega
      generalize ((playA L k).appA L[k]).val = av at *
      generalize (playA L k).appE L[k] = ev at *
      generalize L[k].cl = X at *
      clear HAP
      go_wp2_with (first
        | (refine wpList_load_mid rfl 31 (.tmp 30) rfl ga (o + k * 9) rfl X _ (HRX.out _ HSR.out.frame) Tryz.underlying31 rfl HZX.out ?_)
        | (go_at_call 12; refine (HSR.out.call (fun fp hk => HAP2.out fp _ (HF1.out.below HSR.out.frame HF1.out.1) hk)).mono ?_; rintro e w4 ⟨rfl, hs4, -⟩; have HS4 := hid hs4; clear hs4))
      exact ⟨⟨k + 1, by omega, by go_num, HS4.out⟩, by simp [intOf]; omega⟩
    · obtain rfl : k = nl := by omega
      have hi1 : ¬ (k : Int) < (k : Int) := by omega
      obtain ⟨hwf, hopn⟩ := HPA.out k (by rw [← HNL.out]; exact Nat.le_refl _)
      generalize playA L k = S at *
      have HSE := hid (fun fp W (hk : Hm KP p S fp W) => mses_any p S fp W hk)
      have HWF := hid hwf
      clear HPA HPS HP0 HPG
      by_cases hT0 : S.w.T.length = 0
      · obtain ⟨m0, hm0⟩ : ∃ m0, m0 = S.w.T.length := ⟨_, rfl⟩
        have HSE2 : Hid (∀ fp W, Hm KP p S fp W → Calls Tryz.prog 20 #[.pointer (some ⟨p, 0, none⟩)] W fun e w' => ∃ A5 c5, e = .returned (.slice A5 0 c5) ∧ Below W.heap.size W w') := hid fun fp W hk => (HSE.out fp W hk).mono fun e w' hh => by
          obtain ⟨A5, c5, e1, _, _, h3, -⟩ := hh
          rw [hT0] at e1
          exact ⟨A5, c5, e1, h3⟩
        clear hm0 hT0 HSE
        go_wp2_with (go_at_call 20; refine (HSR.out.look (fun fp hk => HSE2.out fp _ hk)).mono ?_; rintro e w5 ⟨A5, c5, rfl, hx⟩; have HX5 := hid hx; clear hx)
        go_ret
        have hfr := (HSR.out.below HX5.out).frame
        exact ⟨rfl, HB1.out.trans (hfr.mono HB1.out.size)⟩
      · obtain ⟨x, T', hT⟩ : ∃ x T', S.w.T = x :: T' := by
          cases h : S.w.T with
          | nil => rw [h] at hT0; exact absurd rfl hT0
          | cons x T' => exact ⟨x, T', rfl⟩
        obtain ⟨ns, hns⟩ : ∃ ns, ns = S.w.T.length := ⟨_, rfl⟩
        have hns0 : 0 < ns := by omega
        have HSE2 : Hid (∀ fp W, Hm KP p S fp W → Calls Tryz.prog 20 #[.pointer (some ⟨p, 0, none⟩)] W fun e w' => ∃ A5 c5, e = .returned (.slice A5 ns c5) ∧ Rd w' w'.heap.size A5 (rows Ss.cells (x :: T')) ∧ Below W.heap.size W w') := hid fun fp W hk => (HSE.out fp W hk).mono fun e w' hh => by
          obtain ⟨A5, c5, e1, _, h2, h3, -⟩ := hh
          rw [← hns] at e1
          rw [hT] at h2
          exact ⟨A5, c5, e1, h2, h3⟩
        have hx0 := hwf.w.t.ok x (by rw [hT]; simp)
        have HXOK := hid hx0
        obtain ⟨xc, xs, xr, xo, xt⟩ := x
        obtain ⟨hxr0, hxr1⟩ := hx0.r
        obtain ⟨hxc0, hxc1⟩ := hx0.c
        obtain ⟨hxs0, hxs1⟩ := hx0.s
        simp only at hxr0 hxr1 hxc0 hxc1 hxs0 hxs1
        have HTT := hid hT
        obtain ⟨⟨mo, mv, ms⟩, M⟩ := S
        have HMOK := hid hwf.m
        obtain ⟨⟨hmo0, hmo1⟩, ⟨hmv0, hmv1⟩, hms⟩ := hwf.m
        simp only at hmo0 hmo1 hmv0 hmv1 hms hopn
        have HMA : Hid (∀ fp W, Hm KP p ⟨⟨mo, mv, ms⟩, M⟩ fp W → Calls Tryz.prog 18 #[.pointer (some ⟨p, 0, none⟩)] W (VE W (.agg #[.int .i64 mo, .int .i64 mv, .int .u64 (ms : Int)]))) := hid fun fp W hk => mmark_any p _ fp W hk
        have HXW : Hid (IntKind.i64.wrap (xr + 1) = xr + 1) := hid (IntWalk.i64_in _ ⟨by omega, by omega⟩)
        clear hT0 hns HSE hT hx0 hwf
        have hns1 : ((ns : Int) == 0) = false := by simp; omega
        have hns2 : (0 : Int) < (ns : Int) := by omega
        go_wp2_with (go_at_call 20; refine (HSR.out.look (fun fp hk => HSE2.out fp _ hk)).mono ?_; rintro e w5 ⟨A5, c5, rfl, hr5, hx⟩; have HS5 := hid (HSR.out.below hx); have HR5 := hid hr5; clear hx hr5)
        obtain ⟨g5, o5, rfl⟩ := shape_of HR5.out Ss.len (by decide) (by simp)
        have HC0 : Hid (∀ W, Below w5.heap.size w5 W → W.cell? ⟨g5, o5, none⟩ = some (.int .i64 xc)) := hid fun W hW => by have h := range_of (HR5.out.below hW (Nat.le_refl _)) Ss.len (k := 0) (by simp) 0 _ rfl; simpa using h
        have HC1 : Hid (∀ W, Below w5.heap.size w5 W → W.cell? ⟨g5, o5 + 1, none⟩ = some (.int .i64 xs)) := hid fun W hW => by have h := range_of (HR5.out.below hW (Nat.le_refl _)) Ss.len (k := 0) (by simp) 1 _ rfl; simpa using h
        have HC2 : Hid (∀ W, Below w5.heap.size w5 W → W.cell? ⟨g5, o5 + 2, none⟩ = some (.int .i64 xr)) := hid fun W hW => by have h := range_of (HR5.out.below hW (Nat.le_refl _)) Ss.len (k := 0) (by simp) 2 _ rfl; simpa using h
        clear HR5 HSR
        try simp only [Act.put]
        go_cut [10] (fun v wx => ∃ bx, ∃ W1 : World, W1 = wx ∧ v = .pointer (some ⟨bx, 0, none⟩) ∧ Row W1 bx 31 [.int .i64 mv, .int .i64 0, .int .i64 0, .int .u64 0, .int .i64 xc, .int .i64 xs, .int .i64 (xr + 1), .int .i64 4, .string ids] ∧ w5.heap.size ≤ bx ∧ Below w5.heap.size w5 W1)
        case first =>
          refine wp_region_held_drew (S := fun W => Below w5.heap.size w5 W) (by kernel_rfl) ((Below.refl _ _).drew) (fun hH => ?_)
          refine wpAnyH_take (i := 0) (v := .pointer (some ⟨p, 0, none⟩)) rfl (by kernel_rfl) (by kernel_rfl) (by kernel_rfl) (fun _ _ _ h => h) (Or.inl ⟨by kernel_rfl, fun w' hw' => by clear hw'; go_simp⟩) hH ?_
          simp only [Act.put]
          refine wpAnyH_take (i := 3) (v := .slice (some ⟨g5, o5, none⟩) ns c5) rfl (by kernel_rfl) (by kernel_rfl) (by kernel_rfl) (fun _ _ _ h => h) (Or.inl ⟨by kernel_rfl, fun w' hw' => by clear hw'; go_simp⟩) hH ?_
          simp only [Act.put]
          refine wpAnyH_take (i := 4) (v := .pointer (some ⟨g5, o5, none⟩)) rfl (by kernel_rfl) (by kernel_rfl) (by kernel_rfl) (fun _ _ _ h => h) (Or.inl ⟨by kernel_rfl, fun w' hw' => by clear hw'; go_simp⟩) hH ?_
          simp only [Act.put]
          refine wpAnyH_take (i := 5) (v := .pointer (some ⟨g5, o5, none⟩)) rfl (by kernel_rfl) (by kernel_rfl) (by kernel_rfl) (fun _ _ _ h => h) (Or.inl ⟨by kernel_rfl, fun w' hw' => by clear hw'; go_simp⟩) hH ?_
          simp only [Act.put]
          refine wpAnyH_take (i := 6) (v := .int .i64 xc) rfl (by kernel_rfl) (by kernel_rfl) (by kernel_rfl) (fun _ _ _ h => h) (Or.inl ⟨by kernel_rfl, fun w' hw' => by have h := HC0.out _ hw'; clear hw'; go_simp⟩) hH ?_
          simp only [Act.put]
          refine wpAnyH_take (i := 7) (v := .slice (some ⟨g5, o5, none⟩) ns c5) rfl (by kernel_rfl) (by kernel_rfl) (by kernel_rfl) (fun _ _ _ h => h) (Or.inl ⟨by kernel_rfl, fun w' hw' => by clear hw'; go_simp⟩) hH ?_
          simp only [Act.put]
          refine wpAnyH_take (i := 8) (v := .pointer (some ⟨g5, o5, none⟩)) rfl (by kernel_rfl) (by kernel_rfl) (by kernel_rfl) (fun _ _ _ h => h) (Or.inl ⟨by kernel_rfl, fun w' hw' => by clear hw'; go_simp⟩) hH ?_
          simp only [Act.put]
          refine wpAnyH_take (i := 9) (v := .pointer (some ⟨g5, o5 + 1, none⟩)) rfl (by kernel_rfl) (by kernel_rfl) (by kernel_rfl) (fun _ _ _ h => h) (Or.inl ⟨by kernel_rfl, fun w' hw' => by clear hw'; go_simp⟩) hH ?_
          simp only [Act.put]
          refine wpAnyH_take (i := 10) (v := .int .i64 xs) rfl (by kernel_rfl) (by kernel_rfl) (by kernel_rfl) (fun _ _ _ h => h) (Or.inl ⟨by kernel_rfl, fun w' hw' => by have h := HC1.out _ hw'; clear hw'; go_simp⟩) hH ?_
          simp only [Act.put]
          refine wpAnyH_take (i := 11) (v := .slice (some ⟨g5, o5, none⟩) ns c5) rfl (by kernel_rfl) (by kernel_rfl) (by kernel_rfl) (fun _ _ _ h => h) (Or.inl ⟨by kernel_rfl, fun w' hw' => by clear hw'; go_simp⟩) hH ?_
          simp only [Act.put]
          refine wpAnyH_take (i := 12) (v := .pointer (some ⟨g5, o5, none⟩)) rfl (by kernel_rfl) (by kernel_rfl) (by kernel_rfl) (fun _ _ _ h => h) (Or.inl ⟨by kernel_rfl, fun w' hw' => by clear hw'; go_simp⟩) hH ?_
          simp only [Act.put]
          refine wpAnyH_take (i := 13) (v := .pointer (some ⟨g5, o5 + 2, none⟩)) rfl (by kernel_rfl) (by kernel_rfl) (by kernel_rfl) (fun _ _ _ h => h) (Or.inl ⟨by kernel_rfl, fun w' hw' => by clear hw'; go_simp⟩) hH ?_
          simp only [Act.put]
          refine wpAnyH_take (i := 14) (v := .int .i64 xr) rfl (by kernel_rfl) (by kernel_rfl) (by kernel_rfl) (fun _ _ _ h => h) (Or.inl ⟨by kernel_rfl, fun w' hw' => by have h := HC2.out _ hw'; clear hw'; go_simp⟩) hH ?_
          simp only [Act.put]
          refine wpAnyH_take (i := 15) (v := .int .i64 (xr + 1)) rfl (by kernel_rfl) (by kernel_rfl) (by kernel_rfl) (fun _ _ _ h => h) (Or.inl ⟨by kernel_rfl, fun w' hw' => by have h := HXW.out; clear hw'; go_simp⟩) hH ?_
          simp only [Act.put]
          refine wpAnyH_take (i := 16) (v := .string ids) rfl (by kernel_rfl) (by kernel_rfl) (by kernel_rfl) (fun _ _ _ h => h) (Or.inl ⟨by kernel_rfl, fun w' hw' => by clear hw'; go_simp⟩) hH ?_
          simp only [Act.put]
          refine wpAnyH_ready (rs := [1, 18]) (by kernel_rfl) (by simp) ?_
          refine AllReadyH.cons rfl (fun K hK => ?_) (AllReadyH.cons rfl (fun K hK => ?_) AllReadyH.nil)
          · rw [if_pos (by kernel_rfl)]
            go_simp
            go_at_call 18
            refine ((HS5.out.below hH).look (fun fp hk => HMA.out fp _ hk)).mono ?_
            rintro e w6 ⟨rfl, hb6⟩
            go_wp2_with fail
            refine hK.out _ _ (hH.trans (Below.mono hb6 hH.size)) (fun hH => ?_)
            clear hK K
            try simp only [Act.put]
            have hgw : w5.heap.size ≤ w6.heap.size := hH.size
            refine wpAnyH_take (i := 2) (v := .int .i64 mv) rfl (by kernel_rfl) (by kernel_rfl) (by kernel_rfl) (fun _ _ _ h => h) (Or.inl ⟨by kernel_rfl, fun w' hw' => by have h := run_field_mark mo mv ms w'; clear hw'; go_simp⟩) hH ?_
            simp only [Act.put]
            refine wpAnyH_take (i := 17) (v := .agg ([.int .i64 mv, .int .i64 0, .int .i64 0, .int .u64 0, .int .i64 xc, .int .i64 xs, .int .i64 (xr + 1), .int .i64 4, .string ids] : List Value).toArray) rfl (by kernel_rfl) (by kernel_rfl) (by kernel_rfl) (fun _ _ _ h => h) (Or.inl ⟨by kernel_rfl, fun w' hw' => by clear hw'; go_simp⟩) hH ?_
            simp only [Act.put]
            refine wpAnyH_ready (rs := [18]) (by kernel_rfl) (by simp) ?_
            refine AllReadyH.cons rfl (fun K hK => ?_) AllReadyH.nil
            rw [if_pos (by kernel_rfl)]
            go_simp
            refine hK.out _ _ (hH.alloc hH.size _) (fun hH => ?_)
            clear hK K
            try simp only [Act.put]
            have hrow : Row (w6.alloc (.cells #[.int .i64 0, .int .i64 0, .int .i64 0, .int .u64 0, .int .i64 0, .int .i64 0, .int .i64 0, .int .i64 0, .string ⟨#[]⟩] 31)) w6.heap.size 31 en0.cl := Row.new w6 31 #[.int .i64 0, .int .i64 0, .int .i64 0, .int .u64 0, .int .i64 0, .int .i64 0, .int .i64 0, .int .i64 0, .string ⟨#[]⟩]
            refine wpAnyH_ready (rs := [19]) (by kernel_rfl) (by simp) ?_
            refine AllReadyH.cons rfl (fun K hK => ?_) AllReadyH.nil
            rw [if_pos (by kernel_rfl)]
            refine wp_store_stL (.tmp 10) (.tmp 55) rfl HZE.out w6.heap.size en0.cl [.int .i64 mv, .int .i64 0, .int .i64 0, .int .u64 0, .int .i64 xc, .int .i64 xs, .int .i64 (xr + 1), .int .i64 4, .string ids] rfl rfl hrow rfl rfl rfl (fun W6 hr6 hg6 => ?_)
            have hb7 : Below w5.heap.size w5 W6 := hH.trans (below_grown hg6 hgw hH.size)
            refine hK.out _ _ hb7 (fun hH => ?_)
            clear hK K
            try simp only [Act.put]
            refine wpAnyH_done (by kernel_rfl) ?_ _
            try simp only [Act.put]
            go_wp2_with fail
            go_meet
            case rel => exact ⟨_, _, rfl, rfl, hr6, hgw, hb7⟩
          · rw [if_pos (by kernel_rfl)]
            go_simp
            have hgw : w5.heap.size ≤ w5.heap.size := Nat.le_refl _
            refine hK.out _ _ (hH.alloc hH.size _) (fun hH => ?_)
            clear hK K
            try simp only [Act.put]
            have hrow0 : Row (w5.drew.alloc (.cells #[.int .i64 0, .int .i64 0, .int .i64 0, .int .u64 0, .int .i64 0, .int .i64 0, .int .i64 0, .int .i64 0, .string ⟨#[]⟩] 31)) w5.heap.size 31 en0.cl := Row.new w5.drew 31 #[.int .i64 0, .int .i64 0, .int .i64 0, .int .u64 0, .int .i64 0, .int .i64 0, .int .i64 0, .int .i64 0, .string ⟨#[]⟩]
            refine wpAnyH_ready (rs := [1]) (by kernel_rfl) (by simp) ?_
            refine AllReadyH.cons rfl (fun K hK => ?_) AllReadyH.nil
            rw [if_pos (by kernel_rfl)]
            go_simp
            go_at_call 18
            refine ((HS5.out.below hH).look (fun fp hk => HMA.out fp _ hk)).mono ?_
            rintro e w6 ⟨rfl, hb6⟩
            go_wp2_with fail
            refine hK.out _ _ (hH.trans (Below.mono hb6 hH.size)) (fun hH => ?_)
            clear hK K
            try simp only [Act.put]
            have hrow : Row w6 w5.heap.size 31 en0.cl := hrow0.below hb6 (by simp)
            clear hrow0
            refine wpAnyH_ready (rs := [2]) (by kernel_rfl) (by simp) ?_
            refine AllReadyH.cons rfl (fun K hK => ?_) AllReadyH.nil
            rw [if_pos (by kernel_rfl)]
            have h := run_field_mark mo mv ms w6
            go_simp
            refine hK.out _ _ hH (fun hH => ?_)
            clear h
            clear hK K
            try simp only [Act.put]
            refine wpAnyH_ready (rs := [17]) (by kernel_rfl) (by simp) ?_
            refine AllReadyH.cons rfl (fun K hK => ?_) AllReadyH.nil
            rw [if_pos (by kernel_rfl)]
            go_simp
            refine hK.out _ _ hH (fun hH => ?_)
            clear hK K
            try simp only [Act.put]
            refine wpAnyH_ready (rs := [19]) (by kernel_rfl) (by simp) ?_
            refine AllReadyH.cons rfl (fun K hK => ?_) AllReadyH.nil
            rw [if_pos (by kernel_rfl)]
            refine wp_store_stL (.tmp 10) (.tmp 55) rfl HZE.out w5.heap.size en0.cl [.int .i64 mv, .int .i64 0, .int .i64 0, .int .u64 0, .int .i64 xc, .int .i64 xs, .int .i64 (xr + 1), .int .i64 4, .string ids] rfl rfl hrow rfl rfl rfl (fun W6 hr6 hg6 => ?_)
            have hb7 : Below w5.heap.size w5 W6 := hH.trans (below_grown hg6 hgw hH.size)
            refine hK.out _ _ hb7 (fun hH => ?_)
            clear hK K
            try simp only [Act.put]
            refine wpAnyH_done (by kernel_rfl) ?_ _
            try simp only [Act.put]
            go_wp2_with fail
            go_meet
            case rel => exact ⟨_, _, rfl, rfl, hr6, hgw, hb7⟩
        case rest =>
          obtain ⟨bx, WX, rfl, rfl, hrx, hge, hbx⟩ := hcut
          have HRX0 := hid hrx
          have HSX0 := hid (HS5.out.add hbx hge hrx.lt)
          have HGX := hid (show w1.heap.size ≤ bx from Nat.le_trans HS5.out.frame.size hge)
          clear HS5 HC0 HC1 HC2 hrx hge hbx
          cases tr with
          | false =>
            go_wp2_with fail
            have HRX := HRX0
            have HSX := HSX0
            clear HRX0 HSX0
            have HNX : Hid (∀ W, Calls Tryz.prog 28 #[.agg #[.int .i64 mo, .int .i64 mv, .int .u64 (ms : Int)], .agg ([.int .i64 mv, .int .i64 0, .int .i64 0, .int .u64 0, .int .i64 xc, .int .i64 xs, .int .i64 (xr + 1), .int .i64 4, .string ids] : List Value).toArray] W (VE W (.agg ([.int .i64 mv, .int .i64 (mo + 1), .int .i64 mv, .int .u64 (ms : Int), .int .i64 xc, .int .i64 xs, .int .i64 (xr + 1), .int .i64 4, .string ids] : List Value).toArray))) := hid fun W => by
              have q := next_any ⟨mo, mv, ms⟩ ⟨mv, 0, 0, 0, xc, xs, xr + 1, 4, ids⟩ W (by show ids.size ≤ _; omega)
              rw [ask_next (m := ⟨mo, mv, ms⟩) HMOK.out (by show mo ≤ _; omega) ⟨xc, xs, xr, xo, xt⟩ 4 ids] at q
              exact q
            have HRT : Hid (∀ W, Calls Tryz.prog 30 #[.agg ([.int .i64 mv, .int .i64 (mo + 1), .int .i64 mv, .int .u64 (ms : Int), .int .i64 xc, .int .i64 xs, .int .i64 (xr + 1), .int .i64 4, .string ids] : List Value).toArray] W (VE W (.bool (decide (Rt (askE ⟨mo, mv, ms⟩ ⟨xc, xs, xr, xo, xt⟩ 4 ids)))))) := hid fun W => eright_any (askE ⟨mo, mv, ms⟩ ⟨xc, xs, xr, xo, xt⟩ 4 ids) W
            try simp only [Act.put]
            go_cut [61] (fun _ wx => ∃ W1 : World, W1 = wx ∧ Row W1 bx 31 [.int .i64 mv, .int .i64 (mo + 1), .int .i64 mv, .int .u64 (ms : Int), .int .i64 xc, .int .i64 xs, .int .i64 (xr + 1), .int .i64 4, .string ids] ∧ Sg w1 KP p ⟨⟨mo, mv, ms⟩, M⟩ [bx] W1)
            case first =>
              refine wp_region_held_drew (S := fun _ => True) (by kernel_rfl) trivial (fun hH => ?_)
              refine wpAnyH_take (i := 0) (v := .pointer (some ⟨p, 0, none⟩)) rfl (by kernel_rfl) (by kernel_rfl) (by kernel_rfl) (fun _ _ _ h => h) (Or.inl ⟨by kernel_rfl, fun w' hw' => by clear hw'; go_simp⟩) hH ?_
              simp only [Act.put]
              refine wpAnyH_ready (rs := [1, 2]) (by kernel_rfl) (by simp) ?_
              refine AllReadyH.cons rfl (fun K hK => ?_) (AllReadyH.cons rfl (fun K hK => ?_) AllReadyH.nil)
              · rw [if_pos (by kernel_rfl)]
                go_simp
                go_at_call 18
                refine ((HSX.out.below (below_drewN (Below.refl _ _) 1)).look (fun fp hk => HMA.out fp _ hk)).mono ?_
                rintro e w6 ⟨rfl, hb6⟩
                go_wp2_with fail
                refine hK.out _ _ trivial (fun hH => ?_)
                clear hK K
                try simp only [Act.put]
                refine wpAnyH_ready (rs := [2]) (by kernel_rfl) (by simp) ?_
                refine AllReadyH.cons rfl (fun K hK => ?_) AllReadyH.nil
                rw [if_pos (by kernel_rfl)]
                refine wp_load_row 31 (.tmp 10) rfl bx rfl 31 ([.int .i64 mv, .int .i64 0, .int .i64 0, .int .u64 0, .int .i64 xc, .int .i64 xs, .int .i64 (xr + 1), .int .i64 4, .string ids] : List Value).toArray (0, 0) _ (((HRX.out.drew).below hb6 HRX.out.lt)).arr' Tryz.underlying31 rfl HZE.out ?_
                refine hK.out _ _ trivial (fun hH => ?_)
                clear hK K
                try simp only [Act.put]
                have hbx : Below WX.heap.size WX w6 := ((Below.refl _ _).drew).trans hb6
                refine wpAnyH_ready (rs := [3]) (by kernel_rfl) (by simp) ?_
                refine AllReadyH.cons rfl (fun K hK => ?_) AllReadyH.nil
                rw [if_pos (by kernel_rfl)]
                go_simp
                go_at_call 28
                refine (HNX.out _).mono ?_
                rintro e w7 ⟨rfl, hb7⟩
                go_wp2_with fail
                refine hK.out _ _ trivial (fun hH => ?_)
                clear hK K
                try simp only [Act.put]
                have hbx7 : Below WX.heap.size WX w7 := hbx.trans (hb7.mono hbx.size)
                refine wpAnyH_ready (rs := [4]) (by kernel_rfl) (by simp) ?_
                refine AllReadyH.cons rfl (fun K hK => ?_) AllReadyH.nil
                rw [if_pos (by kernel_rfl)]
                refine wp_store_stL (.tmp 10) (.tmp 61) rfl HZE.out bx [.int .i64 mv, .int .i64 0, .int .i64 0, .int .u64 0, .int .i64 xc, .int .i64 xs, .int .i64 (xr + 1), .int .i64 4, .string ids] [.int .i64 mv, .int .i64 (mo + 1), .int .i64 mv, .int .u64 (ms : Int), .int .i64 xc, .int .i64 xs, .int .i64 (xr + 1), .int .i64 4, .string ids] rfl rfl (HRX.out.below hbx7 HRX.out.lt) rfl rfl rfl (fun W8 hr8 hg8 => ?_)
                refine hK.out _ _ trivial (fun hH => ?_)
                clear hK K
                try simp only [Act.put]
                refine wpAnyH_done (by kernel_rfl) ?_ _
                try simp only [Act.put]
                go_wp2_with fail
                go_meet
                case rel => exact ⟨_, rfl, hr8, (HSX.out.below hbx7).write hg8 (by simp) HGX.out⟩
              · rw [if_pos (by kernel_rfl)]
                refine wp_load_row 31 (.tmp 10) rfl bx rfl 31 ([.int .i64 mv, .int .i64 0, .int .i64 0, .int .u64 0, .int .i64 xc, .int .i64 xs, .int .i64 (xr + 1), .int .i64 4, .string ids] : List Value).toArray (0, 0) _ (HRX.out.drew).arr' Tryz.underlying31 rfl HZE.out ?_
                refine hK.out _ _ trivial (fun hH => ?_)
                clear hK K
                try simp only [Act.put]
                refine wpAnyH_ready (rs := [1]) (by kernel_rfl) (by simp) ?_
                refine AllReadyH.cons rfl (fun K hK => ?_) AllReadyH.nil
                rw [if_pos (by kernel_rfl)]
                go_simp
                go_at_call 18
                refine ((HSX.out.below (below_drewN (Below.refl _ _) 1)).look (fun fp hk => HMA.out fp _ hk)).mono ?_
                rintro e w6 ⟨rfl, hb6⟩
                go_wp2_with fail
                refine hK.out _ _ trivial (fun hH => ?_)
                clear hK K
                try simp only [Act.put]
                have hbx : Below WX.heap.size WX w6 := ((Below.refl _ _).drew).trans hb6
                refine wpAnyH_ready (rs := [3]) (by kernel_rfl) (by simp) ?_
                refine AllReadyH.cons rfl (fun K hK => ?_) AllReadyH.nil
                rw [if_pos (by kernel_rfl)]
                go_simp
                go_at_call 28
                refine (HNX.out _).mono ?_
                rintro e w7 ⟨rfl, hb7⟩
                go_wp2_with fail
                refine hK.out _ _ trivial (fun hH => ?_)
                clear hK K
                try simp only [Act.put]
                have hbx7 : Below WX.heap.size WX w7 := hbx.trans (hb7.mono hbx.size)
                refine wpAnyH_ready (rs := [4]) (by kernel_rfl) (by simp) ?_
                refine AllReadyH.cons rfl (fun K hK => ?_) AllReadyH.nil
                rw [if_pos (by kernel_rfl)]
                refine wp_store_stL (.tmp 10) (.tmp 61) rfl HZE.out bx [.int .i64 mv, .int .i64 0, .int .i64 0, .int .u64 0, .int .i64 xc, .int .i64 xs, .int .i64 (xr + 1), .int .i64 4, .string ids] [.int .i64 mv, .int .i64 (mo + 1), .int .i64 mv, .int .u64 (ms : Int), .int .i64 xc, .int .i64 xs, .int .i64 (xr + 1), .int .i64 4, .string ids] rfl rfl (HRX.out.below hbx7 HRX.out.lt) rfl rfl rfl (fun W8 hr8 hg8 => ?_)
                refine hK.out _ _ trivial (fun hH => ?_)
                clear hK K
                try simp only [Act.put]
                refine wpAnyH_done (by kernel_rfl) ?_ _
                try simp only [Act.put]
                go_wp2_with fail
                go_meet
                case rel => exact ⟨_, rfl, hr8, (HSX.out.below hbx7).write hg8 (by simp) HGX.out⟩
            case rest =>
              obtain ⟨W3, rfl, hrx3, hs3⟩ := hcut
              have HRB := hid hrx3
              have HS3 := hid hs3
              clear hrx3 hs3
              by_cases hrt : Rt (askE ⟨mo, mv, ms⟩ ⟨xc, xs, xr, xo, xt⟩ 4 ids)
              · rw [decide_eq_true hrt] at HRT
                obtain ⟨hap0, hap1, hap2, hap3⟩ := ask_app HWF.out (x := ⟨xc, xs, xr, xo, xt⟩) HTT.out (op := 4) (by omega) (ids := ids) hrt
                have haf := askE_fits HMOK.out (by show mo ≤ _; omega) HXOK.out (op := 4) (by omega) ids
                have HAQ := hid (fun fp W hW hk => mapp_any p ⟨⟨mo, mv, ms⟩, M⟩ fp (askE ⟨mo, mv, ms⟩ ⟨xc, xs, xr, xo, xt⟩ 4 ids) W haf hW hk)
                rw [hap0] at HAQ
                generalize (Ma.app ⟨⟨mo, mv, ms⟩, M⟩ (askE ⟨mo, mv, ms⟩ ⟨xc, xs, xr, xo, xt⟩ 4 ids)) = S2 at *
                generalize (Ma.appA ⟨⟨mo, mv, ms⟩, M⟩ (askE ⟨mo, mv, ms⟩ ⟨xc, xs, xr, xo, xt⟩ 4 ids)) = an at *
                obtain ⟨ak, acl, asn, arq, aop, ab⟩ := an
                simp only at hap1 hap2
                subst hap1
                have HAQ2 : Hid (∀ fp W, Fd W → Hm KP p ⟨⟨mo, mv, ms⟩, M⟩ fp W → Calls Tryz.prog 12 #[.pointer (some ⟨p, 0, none⟩), .agg ([.int .i64 mv, .int .i64 (mo + 1), .int .i64 mv, .int .u64 (ms : Int), .int .i64 xc, .int .i64 xs, .int .i64 (xr + 1), .int .i64 4, .string ids] : List Value).toArray] W fun x w' => x = .returned (.tuple #[.agg #[.int .i64 1, .int .i64 acl, .int .i64 asn, .int .i64 arq, .int .i64 aop, .string ab], .int .i64 0]) ∧ Hmw KP p W fp S2 w') := hid HAQ.out
                have HWA : Hid (∀ fp W, Hm KP p ⟨⟨mo, mv, ms⟩, M⟩ fp W → Calls Tryz.prog 22 #[.pointer (some ⟨p, 0, none⟩)] W (LW Ac.cells 88 4 W M.B.A)) := hid (fun fp W hk => mWa_any p _ fp W hk)
                have HWT : Hid (∀ fp W, Hm KP p ⟨⟨mo, mv, ms⟩, M⟩ fp W → Calls Tryz.prog 24 #[.pointer (some ⟨p, 0, none⟩)] W (LW Tr.cells 90 4 W M.B.T)) := hid (fun fp W hk => mWt_any p _ fp W hk)
                have HAC0 := hid (fun fp W (hk : Hm KP p S2 fp W) => macc_any p S2 fp W hk)
                have HTC0 := hid (fun fp W (hk : Hm KP p S2 fp W) => mtra_any p S2 fp W hk)
                simp only at hap3
                rw [hap3] at HAC0 HTC0
                obtain ⟨BB, hBB⟩ : ∃ BB, BB = M.B := ⟨_, rfl⟩
                have hbwf : BB.WF := by rw [hBB]; exact HWF.out.w.b
                rw [← hBB] at HWA HWT HAC0 HTC0
                rw [← hBB] at hap2
                have hla := hbwf.la
                have hlb := hbwf.lt
                obtain ⟨na, hna⟩ : ∃ na, na = BB.A.length := ⟨_, rfl⟩
                obtain ⟨nt, hnt⟩ : ∃ nt, nt = BB.T.length := ⟨_, rfl⟩
                have HWA2 : Hid (∀ fp W, Hm KP p ⟨⟨mo, mv, ms⟩, M⟩ fp W → Calls Tryz.prog 22 #[.pointer (some ⟨p, 0, none⟩)] W fun e w' => ∃ A c, e = .returned (.slice A na c) ∧ na ≤ c ∧ w'.ownsRow W.heap.size 88 4 (.slice A na c) na (rows Ac.cells BB.A) ∧ Below W.heap.size W w') := hid (by rw [hna]; exact HWA.out)
                have HWT2 : Hid (∀ fp W, Hm KP p ⟨⟨mo, mv, ms⟩, M⟩ fp W → Calls Tryz.prog 24 #[.pointer (some ⟨p, 0, none⟩)] W fun e w' => ∃ A c, e = .returned (.slice A nt c) ∧ nt ≤ c ∧ w'.ownsRow W.heap.size 90 4 (.slice A nt c) nt (rows Tr.cells BB.T) ∧ Below W.heap.size W w') := hid (by rw [hnt]; exact HWT.out)
                have HAC : Hid (∀ fp W, Hm KP p S2 fp W → Calls Tryz.prog 22 #[.pointer (some ⟨p, 0, none⟩)] W fun e w' => ∃ A c, e = .returned (.slice A na c) ∧ na ≤ c ∧ Rd w' w'.heap.size A (rows Ac.cells BB.A) ∧ Below W.heap.size W w') := hid fun fp W hk => (HAC0.out fp W hk).mono fun e w' hh => by
                  obtain ⟨A, c, e1, h1, h2, h3, -⟩ := hh
                  rw [← hna] at e1 h1
                  exact ⟨A, c, e1, h1, h2, h3⟩
                have HTC : Hid (∀ fp W, Hm KP p S2 fp W → Calls Tryz.prog 24 #[.pointer (some ⟨p, 0, none⟩)] W fun e w' => ∃ A c, e = .returned (.slice A nt c) ∧ nt ≤ c ∧ Rd w' w'.heap.size A (rows Tr.cells BB.T) ∧ Below W.heap.size W w') := hid fun fp W hk => (HTC0.out fp W hk).mono fun e w' hh => by
                  obtain ⟨A, c, e1, h1, h2, h3, -⟩ := hh
                  rw [← hnt] at e1 h1
                  exact ⟨A, c, e1, h1, h2, h3⟩
                have HNA := hid hna
                have HNT := hid hnt
                have HDO0 := hid (fun q fq W (hk : Gk 57 q BB fq W) => rdoB_4 q fq BB ids W (by omega) hk)
                have HBB2 : Hid (∀ q fq W, Gk 57 q BB fq W → Calls Tryz.prog 31 #[.pointer (some ⟨q, 0, none⟩), .int .i64 4, .string ids] W (VE W (.string ab))) := hid fun q fq W hk => by
                  rw [hap2]
                  exact HDO0.out q fq W hk
                have HBWF := hid hbwf
                rw [← hna] at hla
                rw [← hnt] at hlb
                clear HAQ HWA HWT HAC0 HTC0 hBB hna hnt HDO0 hap0 hap2 hap3 hbwf hrt
                go_wp2_with (first
                  | (refine wpList_load_row rfl 31 (.tmp 10) rfl bx rfl 31 ([.int .i64 mv, .int .i64 (mo + 1), .int .i64 mv, .int .u64 (ms : Int), .int .i64 xc, .int .i64 xs, .int .i64 (xr + 1), .int .i64 4, .string ids] : List Value).toArray (0, 0) _ HRB.out.arr' Tryz.underlying31 rfl HZE.out ?_)
                  | (go_at_call 30; refine (HRT.out _).mono ?_; rintro e w7 ⟨rfl, hx⟩; replace HS3 := hid (HS3.out.below hx); replace HRB := hid (HRB.out.below hx HRB.out.lt); clear hx HRT)
                  | (go_at_call 22; refine (HS3.out.look (fun fp hk => HWA2.out fp _ hk)).mono ?_; rintro e w8 ⟨A6, c6, rfl, hc6, ho6, hx⟩; have HO6 := hid ho6; have HS4 := hid (HS3.out.addOwn hx ho6); replace HRB := hid (HRB.out.below hx HRB.out.lt); clear hx ho6 HWA2)
                  | (go_at_call 24; refine (HS4.out.look (fun fp hk => HWT2.out fp _ hk)).mono ?_; rintro e w9 ⟨A8, c8, rfl, hc8, ho8, hx⟩; have HS5b := hid (HS4.out.addOwn hx ho8); have HO8 := hid ho8; replace HO6 := hid (own_below HO6.out hx); replace HRB := hid (HRB.out.below hx HRB.out.lt); clear hx ho8 HWT2)
                  | (refine wpList_load_row rfl 31 (.tmp 10) rfl bx rfl 31 ([.int .i64 mv, .int .i64 (mo + 1), .int .i64 mv, .int .u64 (ms : Int), .int .i64 xc, .int .i64 xs, .int .i64 (xr + 1), .int .i64 4, .string ids] : List Value).toArray (0, 0) _ (HRB.out.alloc (.cells #[.slice A6 na c6, .slice A8 nt c8] 57)).arr' Tryz.underlying31 rfl HZE.out ?_)
                  | (go_at_call 12; have HSQ := hid (HS5b.out.add ((Below.refl _ _).alloc (Nat.le_refl _) (.cells #[.slice A6 na c6, .slice A8 nt c8] 57)) (Nat.le_refl _) (by simp)); refine (HSQ.out.callF (fun fp hk => HAQ2.out fp _ (HF1.out.below HSQ.out.frame HF1.out.1) hk)).mono ?_; rintro e wx ⟨rfl, hsx, hkf⟩; have HSX2 := hid hsx; have HKF := hid hkf; clear hsx hkf)
                  | (refine wpl_store_st rfl (.tmp 14) (.tmp 77) rfl HZ.out wx.heap.size an0.cells.toList [.int .i64 1, .int .i64 acl, .int .i64 asn, .int .i64 arq, .int .i64 aop, .string ab] rfl rfl (Row.new _ _ _) ?_ (hid rfl) (hid rfl) (hid rfl); intro WE hre hge2; have HRA := hid hre; have HBE := hid (((Below.refl wx.heap.size wx).alloc (Nat.le_refl _) (.cells an0.cells 33)).trans (below_grown hge2 (Nat.le_refl _) (by simp))); clear hre hge2))
                have HQ0 := hid (Row.new w9 57 #[.slice A6 na c6, .slice A8 nt c8])
                have ho6q := own_below HO6.out ((Below.refl w9.heap.size w9).alloc (Nat.le_refl _) (.cells #[.slice A6 na c6, .slice A8 nt c8] 57))
                have ho8q := own_below HO8.out ((Below.refl w9.heap.size w9).alloc (Nat.le_refl _) (.cells #[.slice A6 na c6, .slice A8 nt c8] 57))
                have HGK : Hid (Gk 57 w9.heap.size BB (fpG w9.heap.size (.slice A6 na c6) (.slice A8 nt c8)) WE) := hid (by
                  have hq : HasG (w9.alloc (.cells #[.slice A6 na c6, .slice A8 nt c8] 57)) 57 w9.heap.size (.slice A6 na c6) (.slice A8 nt c8) BB := ⟨HQ0.out, by rw [← HNA.out]; exact own_zero ho6q 0 (fun _ _ => Nat.zero_le _), by rw [← HNT.out]; exact own_zero ho8q 0 (fun _ _ => Nat.zero_le _), HBWF.out, by decide⟩
                  obtain ⟨fq, hf1, hf2⟩ := HKF.out
                  refine (Gk.fr ⟨_, _, rfl, hq⟩ hf1 (fun b hb => ?_)).below HBE.out
                  rcases fpG_mem.1 hb with rfl | hb | hb
                  · exact hf2 _ (by simp)
                  · exact hf2 _ (by simp [hb])
                  · exact hf2 _ (by simp [hb]))
                have HRD6 : Hid (∀ W, Below WE.heap.size WE W → Rd W W.heap.size A6 (rows Ac.cells BB.A)) := hid fun W hW => by
                  obtain ⟨fq, hf1, hf2⟩ := HKF.out
                  have h1 := own_below (own_below (Fr.own hf1 ho6q (fun g hg => hf2 g (by simp [hg]))) HBE.out) hW
                  obtain ⟨A', c', e1, _, h2⟩ := own_rd h1
                  cases e1
                  exact h2
                have HRD8 : Hid (∀ W, Below WE.heap.size WE W → Rd W W.heap.size A8 (rows Tr.cells BB.T)) := hid fun W hW => by
                  obtain ⟨fq, hf1, hf2⟩ := HKF.out
                  have h1 := own_below (own_below (Fr.own hf1 ho8q (fun g hg => hf2 g (by simp [hg]))) HBE.out) hW
                  obtain ⟨A', c', e1, _, h2⟩ := own_rd h1
                  cases e1
                  exact h2
                have HS9 := hid (HSX2.out.below HBE.out)
                have HRB2 := hid (show Row WE bx 31 [.int .i64 mv, .int .i64 (mo + 1), .int .i64 mv, .int .u64 (ms : Int), .int .i64 xc, .int .i64 xs, .int .i64 (xr + 1), .int .i64 4, .string ids] from by
                  obtain ⟨fq, hf1, hf2⟩ := HKF.out
                  exact (hf1.row (HRB.out.alloc _) (hf2 _ (by simp))).below HBE.out (hf1.row (HRB.out.alloc _) (hf2 _ (by simp))).lt)
                have HDO := hid (fun W (hW : Below WE.heap.size WE W) => HBB2.out _ _ W (HGK.out.below hW))
                clear HKF HQ0 ho6q ho8q HGK HSX2 HO6 HO8 HBB2 HAQ2 HSQ
                generalize w9.heap.size = q at *
                generalize wx.heap.size = ba at *
                try simp only [Act.put]
                refine wp_region_held_drew (S := fun W => Below WE.heap.size WE W) (by kernel_rfl) ((Below.refl _ _).drew) (fun hH => ?_)
                refine wpAnyH_take (i := 0) (v := .int .i64 0) rfl (by kernel_rfl) (by kernel_rfl) (by kernel_rfl) (fun _ _ _ h => h) (Or.inl ⟨by kernel_rfl, fun w' hw' => by clear hw'; go_simp⟩) hH ?_
                simp only [Act.put]
                refine wpAnyH_take (i := 1) (v := .bool true) rfl (by kernel_rfl) (by kernel_rfl) (by kernel_rfl) (fun _ _ _ h => h) (Or.inl ⟨by kernel_rfl, fun w' hw' => by clear hw'; go_simp⟩) hH ?_
                simp only [Act.put]
                refine wpAnyH_take (i := 2) (v := .bool true) rfl (by kernel_rfl) (by kernel_rfl) (by kernel_rfl) (fun _ _ _ h => h) (Or.inl ⟨by kernel_rfl, fun w' hw' => by clear hw'; go_simp⟩) hH ?_
                simp only [Act.put]
                refine wpAnyH_take (i := 3) (v := .pointer (some ⟨ba, 0, none⟩)) rfl (by kernel_rfl) (by kernel_rfl) (by kernel_rfl) (fun _ _ _ h => h) (Or.inl ⟨by kernel_rfl, fun w' hw' => by clear hw'; go_simp⟩) hH ?_
                simp only [Act.put]
                refine wpAnyH_take (i := 4) (v := .int .i64 1) rfl (by kernel_rfl) (by kernel_rfl) (by kernel_rfl) (fun _ _ _ h => h) (Or.inl ⟨by kernel_rfl, fun w' hw' => by have h := (HRA.out.below hw' HRA.out.lt).at_ 0 _ rfl; clear hw'; go_simp⟩) hH ?_
                simp only [Act.put]
                refine wpAnyH_take (i := 5) (v := .bool true) rfl (by kernel_rfl) (by kernel_rfl) (by kernel_rfl) (fun _ _ _ h => h) (Or.inl ⟨by kernel_rfl, fun w' hw' => by clear hw'; go_simp⟩) hH ?_
                simp only [Act.put]
                refine wpAnyH_take (i := 6) (v := .bool true) rfl (by kernel_rfl) (by kernel_rfl) (by kernel_rfl) (fun _ _ _ h => h) (Or.inl ⟨by kernel_rfl, fun w' hw' => by clear hw'; go_simp⟩) hH ?_
                simp only [Act.put]
                refine wpAnyH_take (i := 7) (v := .bool true) rfl (by kernel_rfl) (by kernel_rfl) (by kernel_rfl) (fun _ _ _ h => h) (Or.inl ⟨by kernel_rfl, fun w' hw' => by clear hw'; go_simp⟩) hH ?_
                simp only [Act.put]
                refine wpAnyH_take (i := 8) (v := .pointer (some ⟨ba, 5, none⟩)) rfl (by kernel_rfl) (by kernel_rfl) (by kernel_rfl) (fun _ _ _ h => h) (Or.inl ⟨by kernel_rfl, fun w' hw' => by clear hw'; go_simp⟩) hH ?_
                simp only [Act.put]
                refine wpAnyH_take (i := 9) (v := .string ab) rfl (by kernel_rfl) (by kernel_rfl) (by kernel_rfl) (fun _ _ _ h => h) (Or.inl ⟨by kernel_rfl, fun w' hw' => by have h := (HRA.out.below hw' HRA.out.lt).at_ 5 _ rfl; clear hw'; go_simp⟩) hH ?_
                simp only [Act.put]
                refine wpAnyH_take (i := 10) (v := .pointer (some ⟨q, 0, none⟩)) rfl (by kernel_rfl) (by kernel_rfl) (by kernel_rfl) (fun _ _ _ h => h) (Or.inl ⟨by kernel_rfl, fun w' hw' => by clear hw'; go_simp⟩) hH ?_
                simp only [Act.put]
                refine wpAnyH_take (i := 11) (v := .pointer (some ⟨bx, 7, none⟩)) rfl (by kernel_rfl) (by kernel_rfl) (by kernel_rfl) (fun _ _ _ h => h) (Or.inl ⟨by kernel_rfl, fun w' hw' => by clear hw'; go_simp⟩) hH ?_
                simp only [Act.put]
                refine wpAnyH_take (i := 12) (v := .int .i64 4) rfl (by kernel_rfl) (by kernel_rfl) (by kernel_rfl) (fun _ _ _ h => h) (Or.inl ⟨by kernel_rfl, fun w' hw' => by have h := (HRB2.out.below hw' HRB2.out.lt).at_ 7 _ rfl; clear hw'; go_simp⟩) hH ?_
                simp only [Act.put]
                refine wpAnyH_take (i := 13) (v := .string ids) rfl (by kernel_rfl) (by kernel_rfl) (by kernel_rfl) (fun _ _ _ h => h) (Or.inl ⟨by kernel_rfl, fun w' hw' => by clear hw'; go_simp⟩) hH ?_
                simp only [Act.put]
                refine wpAnyH_ready (rs := [14]) (by kernel_rfl) (by simp) ?_
                refine AllReadyH.cons rfl (fun K hK => ?_) AllReadyH.nil
                rw [if_pos (by kernel_rfl)]
                go_simp
                go_at_call 31
                refine (HDO.out _ hH).mono ?_
                rintro e wd ⟨rfl, hbz⟩
                go_wp2_with fail
                refine hK.out _ _ (hH.trans (Below.mono hbz hH.size)) (fun hH => ?_)
                clear hK K
                try simp only [Act.put]
                refine wpAnyH_take (i := 15) (v := .bool true) rfl (by kernel_rfl) (by kernel_rfl) (by kernel_rfl) (fun _ _ _ h => h) (Or.inl ⟨by kernel_rfl, fun w' hw' => by clear hw'; go_simp⟩) hH ?_
                simp only [Act.put]
                refine wpAnyH_take (i := 16) (v := .bool true) rfl (by kernel_rfl) (by kernel_rfl) (by kernel_rfl) (fun _ _ _ h => h) (Or.inl ⟨by kernel_rfl, fun w' hw' => by clear hw'; go_simp⟩) hH ?_
                simp only [Act.put]
                refine wpAnyH_take (i := 17) (v := .bool true) rfl (by kernel_rfl) (by kernel_rfl) (by kernel_rfl) (fun _ _ _ h => h) (Or.inl ⟨by kernel_rfl, fun w' hw' => by clear hw'; go_simp⟩) hH ?_
                simp only [Act.put]
                refine wpAnyH_take (i := 18) (v := .pointer (some ⟨p, 0, none⟩)) rfl (by kernel_rfl) (by kernel_rfl) (by kernel_rfl) (fun _ _ _ h => h) (Or.inl ⟨by kernel_rfl, fun w' hw' => by clear hw'; go_simp⟩) hH ?_
                simp only [Act.put]
                refine wpAnyH_take (i := 20) (v := .slice A6 na c6) rfl (by kernel_rfl) (by kernel_rfl) (by kernel_rfl) (fun _ _ _ h => h) (Or.inl ⟨by kernel_rfl, fun w' hw' => by clear hw'; go_simp⟩) hH ?_
                simp only [Act.put]
                refine wpAnyH_ready (rs := [19]) (by kernel_rfl) (by simp) ?_
                refine AllReadyH.cons rfl (fun K hK => ?_) AllReadyH.nil
                rw [if_pos (by kernel_rfl)]
                go_simp
                go_at_call 22
                refine ((HS9.out.below hH).look (fun fp hk => HAC.out fp _ hk)).mono ?_
                rintro e wa1 ⟨A7, c7, rfl, hc7, hr7, hbz⟩
                go_wp2_with fail
                refine hK.out _ _ (hH.trans (Below.mono hbz hH.size)) (fun hH => ?_)
                clear hK K
                try simp only [Act.put]
                refine wpAnyH_ready (rs := [21]) (by kernel_rfl) (by simp) ?_
                refine AllReadyH.cons rfl (fun K hK => ?_) AllReadyH.nil
                rw [if_pos (by kernel_rfl)]
                go_simp
                go_at_call 21
                refine (samea_any A7 A6 _ na c7 c6 wa1.heap.size wa1 hr7 (HRD6.out _ hH) HNA.out hc7 hc6 (Nat.le_refl _) (by omega)).mono ?_
                rintro e wa2 ⟨rfl, hbz⟩
                go_wp2_with fail
                refine hK.out _ _ (hH.trans (Below.mono hbz hH.size)) (fun hH => ?_)
                clear hK K
                try simp only [Act.put]
                refine wpAnyH_take (i := 22) (v := .bool true) rfl (by kernel_rfl) (by kernel_rfl) (by kernel_rfl) (fun _ _ _ h => h) (Or.inl ⟨by kernel_rfl, fun w' hw' => by clear hw'; go_simp⟩) hH ?_
                simp only [Act.put]
                refine wpAnyH_take (i := 23) (v := .bool true) rfl (by kernel_rfl) (by kernel_rfl) (by kernel_rfl) (fun _ _ _ h => h) (Or.inl ⟨by kernel_rfl, fun w' hw' => by clear hw'; go_simp⟩) hH ?_
                simp only [Act.put]
                refine wpAnyH_take (i := 24) (v := .pointer (some ⟨p, 0, none⟩)) rfl (by kernel_rfl) (by kernel_rfl) (by kernel_rfl) (fun _ _ _ h => h) (Or.inl ⟨by kernel_rfl, fun w' hw' => by clear hw'; go_simp⟩) hH ?_
                simp only [Act.put]
                refine wpAnyH_take (i := 26) (v := .slice A8 nt c8) rfl (by kernel_rfl) (by kernel_rfl) (by kernel_rfl) (fun _ _ _ h => h) (Or.inl ⟨by kernel_rfl, fun w' hw' => by clear hw'; go_simp⟩) hH ?_
                simp only [Act.put]
                refine wpAnyH_ready (rs := [25]) (by kernel_rfl) (by simp) ?_
                refine AllReadyH.cons rfl (fun K hK => ?_) AllReadyH.nil
                rw [if_pos (by kernel_rfl)]
                go_simp
                go_at_call 24
                refine ((HS9.out.below hH).look (fun fp hk => HTC.out fp _ hk)).mono ?_
                rintro e wa3 ⟨A9, c9, rfl, hc9, hr9, hbz⟩
                go_wp2_with fail
                refine hK.out _ _ (hH.trans (Below.mono hbz hH.size)) (fun hH => ?_)
                clear hK K
                try simp only [Act.put]
                refine wpAnyH_ready (rs := [27]) (by kernel_rfl) (by simp) ?_
                refine AllReadyH.cons rfl (fun K hK => ?_) AllReadyH.nil
                rw [if_pos (by kernel_rfl)]
                go_simp
                go_at_call 23
                refine (samet_any A9 A8 _ nt c9 c8 wa3.heap.size wa3 hr9 (HRD8.out _ hH) HNT.out hc9 hc8 (Nat.le_refl _) (by omega)).mono ?_
                rintro e wa4 ⟨rfl, hbz⟩
                go_wp2_with fail
                refine hK.out _ _ (hH.trans (Below.mono hbz hH.size)) (fun hH => ?_)
                clear hK K
                try simp only [Act.put]
                refine wpAnyH_take (i := 28) (v := .bool true) rfl (by kernel_rfl) (by kernel_rfl) (by kernel_rfl) (fun _ _ _ h => h) (Or.inl ⟨by kernel_rfl, fun w' hw' => by clear hw'; go_simp⟩) hH ?_
                simp only [Act.put]
                refine wpAnyH_ready (rs := [29]) (by kernel_rfl) (by simp) ?_
                refine AllReadyH.cons rfl (fun K hK => ?_) AllReadyH.nil
                rw [if_pos (by kernel_rfl)]
                go_simp
                refine hK.out _ _ hH (fun hH => ?_)
                clear hK K
                try simp only [Act.put]
                refine wpAnyH_done (by kernel_rfl) ?_ _
                try simp only [Act.put]
                go_wp2_with fail
                go_ret
                have hfr := (HS9.out.below hH).frame
                exact ⟨rfl, HB1.out.trans (hfr.mono HB1.out.size)⟩
              · rw [decide_eq_false hrt] at HRT
                clear hrt
                go_wp2_with (first
                  | (refine wpList_load_row rfl 31 (.tmp 10) rfl bx rfl 31 ([.int .i64 mv, .int .i64 (mo + 1), .int .i64 mv, .int .u64 (ms : Int), .int .i64 xc, .int .i64 xs, .int .i64 (xr + 1), .int .i64 4, .string ids] : List Value).toArray (0, 0) _ HRB.out.arr' Tryz.underlying31 rfl HZE.out ?_)
                  | (go_at_call 30; refine (HRT.out _).mono ?_; rintro e w7 ⟨rfl, hx⟩; replace HS3 := hid (HS3.out.below hx); clear hx))
                go_ret
                have hfr := HS3.out.frame
                exact ⟨rfl, HB1.out.trans (hfr.mono HB1.out.size)⟩
          | true =>
            have hc7 := HRX0.out.at_ 7 _ rfl
            have hf7 := HRX0.out.frozen 7
            go_wp2_with fail
            refine name_wp (fun WX hWX => ?_)
            have HRX : Hid (Row WX bx 31 [.int .i64 mv, .int .i64 0, .int .i64 0, .int .u64 0, .int .i64 xc, .int .i64 xs, .int .i64 (xr + 1), .int .i64 5, .string ids]) := hid (by rw [hWX]; exact HRX0.out.set_ 7 (.int .i64 5))
            have HSX : Hid (Sg w1 KP p ⟨⟨mo, mv, ms⟩, M⟩ [bx] WX) := hid (by rw [hWX]; exact HSX0.out.write (gset _ _ _ _) (by simp) HGX.out)
            clear hWX hc7 hf7 HRX0 HSX0
            have HNX : Hid (∀ W, Calls Tryz.prog 28 #[.agg #[.int .i64 mo, .int .i64 mv, .int .u64 (ms : Int)], .agg ([.int .i64 mv, .int .i64 0, .int .i64 0, .int .u64 0, .int .i64 xc, .int .i64 xs, .int .i64 (xr + 1), .int .i64 5, .string ids] : List Value).toArray] W (VE W (.agg ([.int .i64 mv, .int .i64 (mo + 1), .int .i64 mv, .int .u64 (ms : Int), .int .i64 xc, .int .i64 xs, .int .i64 (xr + 1), .int .i64 5, .string ids] : List Value).toArray))) := hid fun W => by
              have q := next_any ⟨mo, mv, ms⟩ ⟨mv, 0, 0, 0, xc, xs, xr + 1, 5, ids⟩ W (by show ids.size ≤ _; omega)
              rw [ask_next (m := ⟨mo, mv, ms⟩) HMOK.out (by show mo ≤ _; omega) ⟨xc, xs, xr, xo, xt⟩ 5 ids] at q
              exact q
            have HRT : Hid (∀ W, Calls Tryz.prog 30 #[.agg ([.int .i64 mv, .int .i64 (mo + 1), .int .i64 mv, .int .u64 (ms : Int), .int .i64 xc, .int .i64 xs, .int .i64 (xr + 1), .int .i64 5, .string ids] : List Value).toArray] W (VE W (.bool (decide (Rt (askE ⟨mo, mv, ms⟩ ⟨xc, xs, xr, xo, xt⟩ 5 ids)))))) := hid fun W => eright_any (askE ⟨mo, mv, ms⟩ ⟨xc, xs, xr, xo, xt⟩ 5 ids) W
            try simp only [Act.put]
            go_cut [61] (fun _ wx => ∃ W1 : World, W1 = wx ∧ Row W1 bx 31 [.int .i64 mv, .int .i64 (mo + 1), .int .i64 mv, .int .u64 (ms : Int), .int .i64 xc, .int .i64 xs, .int .i64 (xr + 1), .int .i64 5, .string ids] ∧ Sg w1 KP p ⟨⟨mo, mv, ms⟩, M⟩ [bx] W1)
            case first =>
              refine wp_region_held_drew (S := fun _ => True) (by kernel_rfl) trivial (fun hH => ?_)
              refine wpAnyH_take (i := 0) (v := .pointer (some ⟨p, 0, none⟩)) rfl (by kernel_rfl) (by kernel_rfl) (by kernel_rfl) (fun _ _ _ h => h) (Or.inl ⟨by kernel_rfl, fun w' hw' => by clear hw'; go_simp⟩) hH ?_
              simp only [Act.put]
              refine wpAnyH_ready (rs := [1, 2]) (by kernel_rfl) (by simp) ?_
              refine AllReadyH.cons rfl (fun K hK => ?_) (AllReadyH.cons rfl (fun K hK => ?_) AllReadyH.nil)
              · rw [if_pos (by kernel_rfl)]
                go_simp
                go_at_call 18
                refine ((HSX.out.below (below_drewN (Below.refl _ _) 1)).look (fun fp hk => HMA.out fp _ hk)).mono ?_
                rintro e w6 ⟨rfl, hb6⟩
                go_wp2_with fail
                refine hK.out _ _ trivial (fun hH => ?_)
                clear hK K
                try simp only [Act.put]
                refine wpAnyH_ready (rs := [2]) (by kernel_rfl) (by simp) ?_
                refine AllReadyH.cons rfl (fun K hK => ?_) AllReadyH.nil
                rw [if_pos (by kernel_rfl)]
                refine wp_load_row 31 (.tmp 10) rfl bx rfl 31 ([.int .i64 mv, .int .i64 0, .int .i64 0, .int .u64 0, .int .i64 xc, .int .i64 xs, .int .i64 (xr + 1), .int .i64 5, .string ids] : List Value).toArray (0, 0) _ (((HRX.out.drew).below hb6 HRX.out.lt)).arr' Tryz.underlying31 rfl HZE.out ?_
                refine hK.out _ _ trivial (fun hH => ?_)
                clear hK K
                try simp only [Act.put]
                have hbx : Below WX.heap.size WX w6 := ((Below.refl _ _).drew).trans hb6
                refine wpAnyH_ready (rs := [3]) (by kernel_rfl) (by simp) ?_
                refine AllReadyH.cons rfl (fun K hK => ?_) AllReadyH.nil
                rw [if_pos (by kernel_rfl)]
                go_simp
                go_at_call 28
                refine (HNX.out _).mono ?_
                rintro e w7 ⟨rfl, hb7⟩
                go_wp2_with fail
                refine hK.out _ _ trivial (fun hH => ?_)
                clear hK K
                try simp only [Act.put]
                have hbx7 : Below WX.heap.size WX w7 := hbx.trans (hb7.mono hbx.size)
                refine wpAnyH_ready (rs := [4]) (by kernel_rfl) (by simp) ?_
                refine AllReadyH.cons rfl (fun K hK => ?_) AllReadyH.nil
                rw [if_pos (by kernel_rfl)]
                refine wp_store_stL (.tmp 10) (.tmp 61) rfl HZE.out bx [.int .i64 mv, .int .i64 0, .int .i64 0, .int .u64 0, .int .i64 xc, .int .i64 xs, .int .i64 (xr + 1), .int .i64 5, .string ids] [.int .i64 mv, .int .i64 (mo + 1), .int .i64 mv, .int .u64 (ms : Int), .int .i64 xc, .int .i64 xs, .int .i64 (xr + 1), .int .i64 5, .string ids] rfl rfl (HRX.out.below hbx7 HRX.out.lt) rfl rfl rfl (fun W8 hr8 hg8 => ?_)
                refine hK.out _ _ trivial (fun hH => ?_)
                clear hK K
                try simp only [Act.put]
                refine wpAnyH_done (by kernel_rfl) ?_ _
                try simp only [Act.put]
                go_wp2_with fail
                go_meet
                case rel => exact ⟨_, rfl, hr8, (HSX.out.below hbx7).write hg8 (by simp) HGX.out⟩
              · rw [if_pos (by kernel_rfl)]
                refine wp_load_row 31 (.tmp 10) rfl bx rfl 31 ([.int .i64 mv, .int .i64 0, .int .i64 0, .int .u64 0, .int .i64 xc, .int .i64 xs, .int .i64 (xr + 1), .int .i64 5, .string ids] : List Value).toArray (0, 0) _ (HRX.out.drew).arr' Tryz.underlying31 rfl HZE.out ?_
                refine hK.out _ _ trivial (fun hH => ?_)
                clear hK K
                try simp only [Act.put]
                refine wpAnyH_ready (rs := [1]) (by kernel_rfl) (by simp) ?_
                refine AllReadyH.cons rfl (fun K hK => ?_) AllReadyH.nil
                rw [if_pos (by kernel_rfl)]
                go_simp
                go_at_call 18
                refine ((HSX.out.below (below_drewN (Below.refl _ _) 1)).look (fun fp hk => HMA.out fp _ hk)).mono ?_
                rintro e w6 ⟨rfl, hb6⟩
                go_wp2_with fail
                refine hK.out _ _ trivial (fun hH => ?_)
                clear hK K
                try simp only [Act.put]
                have hbx : Below WX.heap.size WX w6 := ((Below.refl _ _).drew).trans hb6
                refine wpAnyH_ready (rs := [3]) (by kernel_rfl) (by simp) ?_
                refine AllReadyH.cons rfl (fun K hK => ?_) AllReadyH.nil
                rw [if_pos (by kernel_rfl)]
                go_simp
                go_at_call 28
                refine (HNX.out _).mono ?_
                rintro e w7 ⟨rfl, hb7⟩
                go_wp2_with fail
                refine hK.out _ _ trivial (fun hH => ?_)
                clear hK K
                try simp only [Act.put]
                have hbx7 : Below WX.heap.size WX w7 := hbx.trans (hb7.mono hbx.size)
                refine wpAnyH_ready (rs := [4]) (by kernel_rfl) (by simp) ?_
                refine AllReadyH.cons rfl (fun K hK => ?_) AllReadyH.nil
                rw [if_pos (by kernel_rfl)]
                refine wp_store_stL (.tmp 10) (.tmp 61) rfl HZE.out bx [.int .i64 mv, .int .i64 0, .int .i64 0, .int .u64 0, .int .i64 xc, .int .i64 xs, .int .i64 (xr + 1), .int .i64 5, .string ids] [.int .i64 mv, .int .i64 (mo + 1), .int .i64 mv, .int .u64 (ms : Int), .int .i64 xc, .int .i64 xs, .int .i64 (xr + 1), .int .i64 5, .string ids] rfl rfl (HRX.out.below hbx7 HRX.out.lt) rfl rfl rfl (fun W8 hr8 hg8 => ?_)
                refine hK.out _ _ trivial (fun hH => ?_)
                clear hK K
                try simp only [Act.put]
                refine wpAnyH_done (by kernel_rfl) ?_ _
                try simp only [Act.put]
                go_wp2_with fail
                go_meet
                case rel => exact ⟨_, rfl, hr8, (HSX.out.below hbx7).write hg8 (by simp) HGX.out⟩
            case rest =>
              obtain ⟨W3, rfl, hrx3, hs3⟩ := hcut
              have HRB := hid hrx3
              have HS3 := hid hs3
              clear hrx3 hs3
              by_cases hrt : Rt (askE ⟨mo, mv, ms⟩ ⟨xc, xs, xr, xo, xt⟩ 5 ids)
              · rw [decide_eq_true hrt] at HRT
                obtain ⟨hap0, hap1, hap2, hap3⟩ := ask_app HWF.out (x := ⟨xc, xs, xr, xo, xt⟩) HTT.out (op := 5) (by omega) (ids := ids) hrt
                have haf := askE_fits HMOK.out (by show mo ≤ _; omega) HXOK.out (op := 5) (by omega) ids
                have HAQ := hid (fun fp W hW hk => mapp_any p ⟨⟨mo, mv, ms⟩, M⟩ fp (askE ⟨mo, mv, ms⟩ ⟨xc, xs, xr, xo, xt⟩ 5 ids) W haf hW hk)
                rw [hap0] at HAQ
                generalize (Ma.app ⟨⟨mo, mv, ms⟩, M⟩ (askE ⟨mo, mv, ms⟩ ⟨xc, xs, xr, xo, xt⟩ 5 ids)) = S2 at *
                generalize (Ma.appA ⟨⟨mo, mv, ms⟩, M⟩ (askE ⟨mo, mv, ms⟩ ⟨xc, xs, xr, xo, xt⟩ 5 ids)) = an at *
                obtain ⟨ak, acl, asn, arq, aop, ab⟩ := an
                simp only at hap1 hap2
                subst hap1
                have HAQ2 : Hid (∀ fp W, Fd W → Hm KP p ⟨⟨mo, mv, ms⟩, M⟩ fp W → Calls Tryz.prog 12 #[.pointer (some ⟨p, 0, none⟩), .agg ([.int .i64 mv, .int .i64 (mo + 1), .int .i64 mv, .int .u64 (ms : Int), .int .i64 xc, .int .i64 xs, .int .i64 (xr + 1), .int .i64 5, .string ids] : List Value).toArray] W fun x w' => x = .returned (.tuple #[.agg #[.int .i64 1, .int .i64 acl, .int .i64 asn, .int .i64 arq, .int .i64 aop, .string ab], .int .i64 0]) ∧ Hmw KP p W fp S2 w') := hid HAQ.out
                have HWA : Hid (∀ fp W, Hm KP p ⟨⟨mo, mv, ms⟩, M⟩ fp W → Calls Tryz.prog 22 #[.pointer (some ⟨p, 0, none⟩)] W (LW Ac.cells 88 4 W M.B.A)) := hid (fun fp W hk => mWa_any p _ fp W hk)
                have HWT : Hid (∀ fp W, Hm KP p ⟨⟨mo, mv, ms⟩, M⟩ fp W → Calls Tryz.prog 24 #[.pointer (some ⟨p, 0, none⟩)] W (LW Tr.cells 90 4 W M.B.T)) := hid (fun fp W hk => mWt_any p _ fp W hk)
                have HAC0 := hid (fun fp W (hk : Hm KP p S2 fp W) => macc_any p S2 fp W hk)
                have HTC0 := hid (fun fp W (hk : Hm KP p S2 fp W) => mtra_any p S2 fp W hk)
                simp only at hap3
                rw [hap3] at HAC0 HTC0
                obtain ⟨BB, hBB⟩ : ∃ BB, BB = M.B := ⟨_, rfl⟩
                have hbwf : BB.WF := by rw [hBB]; exact HWF.out.w.b
                rw [← hBB] at HWA HWT HAC0 HTC0
                rw [← hBB] at hap2
                have hla := hbwf.la
                have hlb := hbwf.lt
                obtain ⟨na, hna⟩ : ∃ na, na = BB.A.length := ⟨_, rfl⟩
                obtain ⟨nt, hnt⟩ : ∃ nt, nt = BB.T.length := ⟨_, rfl⟩
                have HWA2 : Hid (∀ fp W, Hm KP p ⟨⟨mo, mv, ms⟩, M⟩ fp W → Calls Tryz.prog 22 #[.pointer (some ⟨p, 0, none⟩)] W fun e w' => ∃ A c, e = .returned (.slice A na c) ∧ na ≤ c ∧ w'.ownsRow W.heap.size 88 4 (.slice A na c) na (rows Ac.cells BB.A) ∧ Below W.heap.size W w') := hid (by rw [hna]; exact HWA.out)
                have HWT2 : Hid (∀ fp W, Hm KP p ⟨⟨mo, mv, ms⟩, M⟩ fp W → Calls Tryz.prog 24 #[.pointer (some ⟨p, 0, none⟩)] W fun e w' => ∃ A c, e = .returned (.slice A nt c) ∧ nt ≤ c ∧ w'.ownsRow W.heap.size 90 4 (.slice A nt c) nt (rows Tr.cells BB.T) ∧ Below W.heap.size W w') := hid (by rw [hnt]; exact HWT.out)
                have HAC : Hid (∀ fp W, Hm KP p S2 fp W → Calls Tryz.prog 22 #[.pointer (some ⟨p, 0, none⟩)] W fun e w' => ∃ A c, e = .returned (.slice A na c) ∧ na ≤ c ∧ Rd w' w'.heap.size A (rows Ac.cells BB.A) ∧ Below W.heap.size W w') := hid fun fp W hk => (HAC0.out fp W hk).mono fun e w' hh => by
                  obtain ⟨A, c, e1, h1, h2, h3, -⟩ := hh
                  rw [← hna] at e1 h1
                  exact ⟨A, c, e1, h1, h2, h3⟩
                have HTC : Hid (∀ fp W, Hm KP p S2 fp W → Calls Tryz.prog 24 #[.pointer (some ⟨p, 0, none⟩)] W fun e w' => ∃ A c, e = .returned (.slice A nt c) ∧ nt ≤ c ∧ Rd w' w'.heap.size A (rows Tr.cells BB.T) ∧ Below W.heap.size W w') := hid fun fp W hk => (HTC0.out fp W hk).mono fun e w' hh => by
                  obtain ⟨A, c, e1, h1, h2, h3, -⟩ := hh
                  rw [← hnt] at e1 h1
                  exact ⟨A, c, e1, h1, h2, h3⟩
                have HNA := hid hna
                have HNT := hid hnt
                have HDO0 := hid (fun q fq W (hk : Gk 57 q BB fq W) => rdoB_5 q fq BB ids W (by omega) hk)
                have HBB2 : Hid (∀ q fq W, Gk 57 q BB fq W → Calls Tryz.prog 31 #[.pointer (some ⟨q, 0, none⟩), .int .i64 5, .string ids] W (VE W (.string ab))) := hid fun q fq W hk => by
                  rw [hap2]
                  exact HDO0.out q fq W hk
                have HBWF := hid hbwf
                rw [← hna] at hla
                rw [← hnt] at hlb
                clear HAQ HWA HWT HAC0 HTC0 hBB hna hnt HDO0 hap0 hap2 hap3 hbwf hrt
                go_wp2_with (first
                  | (refine wpList_load_row rfl 31 (.tmp 10) rfl bx rfl 31 ([.int .i64 mv, .int .i64 (mo + 1), .int .i64 mv, .int .u64 (ms : Int), .int .i64 xc, .int .i64 xs, .int .i64 (xr + 1), .int .i64 5, .string ids] : List Value).toArray (0, 0) _ HRB.out.arr' Tryz.underlying31 rfl HZE.out ?_)
                  | (go_at_call 30; refine (HRT.out _).mono ?_; rintro e w7 ⟨rfl, hx⟩; replace HS3 := hid (HS3.out.below hx); replace HRB := hid (HRB.out.below hx HRB.out.lt); clear hx HRT)
                  | (go_at_call 22; refine (HS3.out.look (fun fp hk => HWA2.out fp _ hk)).mono ?_; rintro e w8 ⟨A6, c6, rfl, hc6, ho6, hx⟩; have HO6 := hid ho6; have HS4 := hid (HS3.out.addOwn hx ho6); replace HRB := hid (HRB.out.below hx HRB.out.lt); clear hx ho6 HWA2)
                  | (go_at_call 24; refine (HS4.out.look (fun fp hk => HWT2.out fp _ hk)).mono ?_; rintro e w9 ⟨A8, c8, rfl, hc8, ho8, hx⟩; have HS5b := hid (HS4.out.addOwn hx ho8); have HO8 := hid ho8; replace HO6 := hid (own_below HO6.out hx); replace HRB := hid (HRB.out.below hx HRB.out.lt); clear hx ho8 HWT2)
                  | (refine wpList_load_row rfl 31 (.tmp 10) rfl bx rfl 31 ([.int .i64 mv, .int .i64 (mo + 1), .int .i64 mv, .int .u64 (ms : Int), .int .i64 xc, .int .i64 xs, .int .i64 (xr + 1), .int .i64 5, .string ids] : List Value).toArray (0, 0) _ (HRB.out.alloc (.cells #[.slice A6 na c6, .slice A8 nt c8] 57)).arr' Tryz.underlying31 rfl HZE.out ?_)
                  | (go_at_call 12; have HSQ := hid (HS5b.out.add ((Below.refl _ _).alloc (Nat.le_refl _) (.cells #[.slice A6 na c6, .slice A8 nt c8] 57)) (Nat.le_refl _) (by simp)); refine (HSQ.out.callF (fun fp hk => HAQ2.out fp _ (HF1.out.below HSQ.out.frame HF1.out.1) hk)).mono ?_; rintro e wx ⟨rfl, hsx, hkf⟩; have HSX2 := hid hsx; have HKF := hid hkf; clear hsx hkf)
                  | (refine wpl_store_st rfl (.tmp 14) (.tmp 77) rfl HZ.out wx.heap.size an0.cells.toList [.int .i64 1, .int .i64 acl, .int .i64 asn, .int .i64 arq, .int .i64 aop, .string ab] rfl rfl (Row.new _ _ _) ?_ (hid rfl) (hid rfl) (hid rfl); intro WE hre hge2; have HRA := hid hre; have HBE := hid (((Below.refl wx.heap.size wx).alloc (Nat.le_refl _) (.cells an0.cells 33)).trans (below_grown hge2 (Nat.le_refl _) (by simp))); clear hre hge2))
                have HQ0 := hid (Row.new w9 57 #[.slice A6 na c6, .slice A8 nt c8])
                have ho6q := own_below HO6.out ((Below.refl w9.heap.size w9).alloc (Nat.le_refl _) (.cells #[.slice A6 na c6, .slice A8 nt c8] 57))
                have ho8q := own_below HO8.out ((Below.refl w9.heap.size w9).alloc (Nat.le_refl _) (.cells #[.slice A6 na c6, .slice A8 nt c8] 57))
                have HGK : Hid (Gk 57 w9.heap.size BB (fpG w9.heap.size (.slice A6 na c6) (.slice A8 nt c8)) WE) := hid (by
                  have hq : HasG (w9.alloc (.cells #[.slice A6 na c6, .slice A8 nt c8] 57)) 57 w9.heap.size (.slice A6 na c6) (.slice A8 nt c8) BB := ⟨HQ0.out, by rw [← HNA.out]; exact own_zero ho6q 0 (fun _ _ => Nat.zero_le _), by rw [← HNT.out]; exact own_zero ho8q 0 (fun _ _ => Nat.zero_le _), HBWF.out, by decide⟩
                  obtain ⟨fq, hf1, hf2⟩ := HKF.out
                  refine (Gk.fr ⟨_, _, rfl, hq⟩ hf1 (fun b hb => ?_)).below HBE.out
                  rcases fpG_mem.1 hb with rfl | hb | hb
                  · exact hf2 _ (by simp)
                  · exact hf2 _ (by simp [hb])
                  · exact hf2 _ (by simp [hb]))
                have HRD6 : Hid (∀ W, Below WE.heap.size WE W → Rd W W.heap.size A6 (rows Ac.cells BB.A)) := hid fun W hW => by
                  obtain ⟨fq, hf1, hf2⟩ := HKF.out
                  have h1 := own_below (own_below (Fr.own hf1 ho6q (fun g hg => hf2 g (by simp [hg]))) HBE.out) hW
                  obtain ⟨A', c', e1, _, h2⟩ := own_rd h1
                  cases e1
                  exact h2
                have HRD8 : Hid (∀ W, Below WE.heap.size WE W → Rd W W.heap.size A8 (rows Tr.cells BB.T)) := hid fun W hW => by
                  obtain ⟨fq, hf1, hf2⟩ := HKF.out
                  have h1 := own_below (own_below (Fr.own hf1 ho8q (fun g hg => hf2 g (by simp [hg]))) HBE.out) hW
                  obtain ⟨A', c', e1, _, h2⟩ := own_rd h1
                  cases e1
                  exact h2
                have HS9 := hid (HSX2.out.below HBE.out)
                have HRB2 := hid (show Row WE bx 31 [.int .i64 mv, .int .i64 (mo + 1), .int .i64 mv, .int .u64 (ms : Int), .int .i64 xc, .int .i64 xs, .int .i64 (xr + 1), .int .i64 5, .string ids] from by
                  obtain ⟨fq, hf1, hf2⟩ := HKF.out
                  exact (hf1.row (HRB.out.alloc _) (hf2 _ (by simp))).below HBE.out (hf1.row (HRB.out.alloc _) (hf2 _ (by simp))).lt)
                have HDO := hid (fun W (hW : Below WE.heap.size WE W) => HBB2.out _ _ W (HGK.out.below hW))
                clear HKF HQ0 ho6q ho8q HGK HSX2 HO6 HO8 HBB2 HAQ2 HSQ
                generalize w9.heap.size = q at *
                generalize wx.heap.size = ba at *
                try simp only [Act.put]
                refine wp_region_held_drew (S := fun W => Below WE.heap.size WE W) (by kernel_rfl) ((Below.refl _ _).drew) (fun hH => ?_)
                refine wpAnyH_take (i := 0) (v := .int .i64 0) rfl (by kernel_rfl) (by kernel_rfl) (by kernel_rfl) (fun _ _ _ h => h) (Or.inl ⟨by kernel_rfl, fun w' hw' => by clear hw'; go_simp⟩) hH ?_
                simp only [Act.put]
                refine wpAnyH_take (i := 1) (v := .bool true) rfl (by kernel_rfl) (by kernel_rfl) (by kernel_rfl) (fun _ _ _ h => h) (Or.inl ⟨by kernel_rfl, fun w' hw' => by clear hw'; go_simp⟩) hH ?_
                simp only [Act.put]
                refine wpAnyH_take (i := 2) (v := .bool true) rfl (by kernel_rfl) (by kernel_rfl) (by kernel_rfl) (fun _ _ _ h => h) (Or.inl ⟨by kernel_rfl, fun w' hw' => by clear hw'; go_simp⟩) hH ?_
                simp only [Act.put]
                refine wpAnyH_take (i := 3) (v := .pointer (some ⟨ba, 0, none⟩)) rfl (by kernel_rfl) (by kernel_rfl) (by kernel_rfl) (fun _ _ _ h => h) (Or.inl ⟨by kernel_rfl, fun w' hw' => by clear hw'; go_simp⟩) hH ?_
                simp only [Act.put]
                refine wpAnyH_take (i := 4) (v := .int .i64 1) rfl (by kernel_rfl) (by kernel_rfl) (by kernel_rfl) (fun _ _ _ h => h) (Or.inl ⟨by kernel_rfl, fun w' hw' => by have h := (HRA.out.below hw' HRA.out.lt).at_ 0 _ rfl; clear hw'; go_simp⟩) hH ?_
                simp only [Act.put]
                refine wpAnyH_take (i := 5) (v := .bool true) rfl (by kernel_rfl) (by kernel_rfl) (by kernel_rfl) (fun _ _ _ h => h) (Or.inl ⟨by kernel_rfl, fun w' hw' => by clear hw'; go_simp⟩) hH ?_
                simp only [Act.put]
                refine wpAnyH_take (i := 6) (v := .bool true) rfl (by kernel_rfl) (by kernel_rfl) (by kernel_rfl) (fun _ _ _ h => h) (Or.inl ⟨by kernel_rfl, fun w' hw' => by clear hw'; go_simp⟩) hH ?_
                simp only [Act.put]
                refine wpAnyH_take (i := 7) (v := .bool true) rfl (by kernel_rfl) (by kernel_rfl) (by kernel_rfl) (fun _ _ _ h => h) (Or.inl ⟨by kernel_rfl, fun w' hw' => by clear hw'; go_simp⟩) hH ?_
                simp only [Act.put]
                refine wpAnyH_take (i := 8) (v := .pointer (some ⟨ba, 5, none⟩)) rfl (by kernel_rfl) (by kernel_rfl) (by kernel_rfl) (fun _ _ _ h => h) (Or.inl ⟨by kernel_rfl, fun w' hw' => by clear hw'; go_simp⟩) hH ?_
                simp only [Act.put]
                refine wpAnyH_take (i := 9) (v := .string ab) rfl (by kernel_rfl) (by kernel_rfl) (by kernel_rfl) (fun _ _ _ h => h) (Or.inl ⟨by kernel_rfl, fun w' hw' => by have h := (HRA.out.below hw' HRA.out.lt).at_ 5 _ rfl; clear hw'; go_simp⟩) hH ?_
                simp only [Act.put]
                refine wpAnyH_take (i := 10) (v := .pointer (some ⟨q, 0, none⟩)) rfl (by kernel_rfl) (by kernel_rfl) (by kernel_rfl) (fun _ _ _ h => h) (Or.inl ⟨by kernel_rfl, fun w' hw' => by clear hw'; go_simp⟩) hH ?_
                simp only [Act.put]
                refine wpAnyH_take (i := 11) (v := .pointer (some ⟨bx, 7, none⟩)) rfl (by kernel_rfl) (by kernel_rfl) (by kernel_rfl) (fun _ _ _ h => h) (Or.inl ⟨by kernel_rfl, fun w' hw' => by clear hw'; go_simp⟩) hH ?_
                simp only [Act.put]
                refine wpAnyH_take (i := 12) (v := .int .i64 5) rfl (by kernel_rfl) (by kernel_rfl) (by kernel_rfl) (fun _ _ _ h => h) (Or.inl ⟨by kernel_rfl, fun w' hw' => by have h := (HRB2.out.below hw' HRB2.out.lt).at_ 7 _ rfl; clear hw'; go_simp⟩) hH ?_
                simp only [Act.put]
                refine wpAnyH_take (i := 13) (v := .string ids) rfl (by kernel_rfl) (by kernel_rfl) (by kernel_rfl) (fun _ _ _ h => h) (Or.inl ⟨by kernel_rfl, fun w' hw' => by clear hw'; go_simp⟩) hH ?_
                simp only [Act.put]
                refine wpAnyH_ready (rs := [14]) (by kernel_rfl) (by simp) ?_
                refine AllReadyH.cons rfl (fun K hK => ?_) AllReadyH.nil
                rw [if_pos (by kernel_rfl)]
                go_simp
                go_at_call 31
                refine (HDO.out _ hH).mono ?_
                rintro e wd ⟨rfl, hbz⟩
                go_wp2_with fail
                refine hK.out _ _ (hH.trans (Below.mono hbz hH.size)) (fun hH => ?_)
                clear hK K
                try simp only [Act.put]
                refine wpAnyH_take (i := 15) (v := .bool true) rfl (by kernel_rfl) (by kernel_rfl) (by kernel_rfl) (fun _ _ _ h => h) (Or.inl ⟨by kernel_rfl, fun w' hw' => by clear hw'; go_simp⟩) hH ?_
                simp only [Act.put]
                refine wpAnyH_take (i := 16) (v := .bool true) rfl (by kernel_rfl) (by kernel_rfl) (by kernel_rfl) (fun _ _ _ h => h) (Or.inl ⟨by kernel_rfl, fun w' hw' => by clear hw'; go_simp⟩) hH ?_
                simp only [Act.put]
                refine wpAnyH_take (i := 17) (v := .bool true) rfl (by kernel_rfl) (by kernel_rfl) (by kernel_rfl) (fun _ _ _ h => h) (Or.inl ⟨by kernel_rfl, fun w' hw' => by clear hw'; go_simp⟩) hH ?_
                simp only [Act.put]
                refine wpAnyH_take (i := 18) (v := .pointer (some ⟨p, 0, none⟩)) rfl (by kernel_rfl) (by kernel_rfl) (by kernel_rfl) (fun _ _ _ h => h) (Or.inl ⟨by kernel_rfl, fun w' hw' => by clear hw'; go_simp⟩) hH ?_
                simp only [Act.put]
                refine wpAnyH_take (i := 20) (v := .slice A6 na c6) rfl (by kernel_rfl) (by kernel_rfl) (by kernel_rfl) (fun _ _ _ h => h) (Or.inl ⟨by kernel_rfl, fun w' hw' => by clear hw'; go_simp⟩) hH ?_
                simp only [Act.put]
                refine wpAnyH_ready (rs := [19]) (by kernel_rfl) (by simp) ?_
                refine AllReadyH.cons rfl (fun K hK => ?_) AllReadyH.nil
                rw [if_pos (by kernel_rfl)]
                go_simp
                go_at_call 22
                refine ((HS9.out.below hH).look (fun fp hk => HAC.out fp _ hk)).mono ?_
                rintro e wa1 ⟨A7, c7, rfl, hc7, hr7, hbz⟩
                go_wp2_with fail
                refine hK.out _ _ (hH.trans (Below.mono hbz hH.size)) (fun hH => ?_)
                clear hK K
                try simp only [Act.put]
                refine wpAnyH_ready (rs := [21]) (by kernel_rfl) (by simp) ?_
                refine AllReadyH.cons rfl (fun K hK => ?_) AllReadyH.nil
                rw [if_pos (by kernel_rfl)]
                go_simp
                go_at_call 21
                refine (samea_any A7 A6 _ na c7 c6 wa1.heap.size wa1 hr7 (HRD6.out _ hH) HNA.out hc7 hc6 (Nat.le_refl _) (by omega)).mono ?_
                rintro e wa2 ⟨rfl, hbz⟩
                go_wp2_with fail
                refine hK.out _ _ (hH.trans (Below.mono hbz hH.size)) (fun hH => ?_)
                clear hK K
                try simp only [Act.put]
                refine wpAnyH_take (i := 22) (v := .bool true) rfl (by kernel_rfl) (by kernel_rfl) (by kernel_rfl) (fun _ _ _ h => h) (Or.inl ⟨by kernel_rfl, fun w' hw' => by clear hw'; go_simp⟩) hH ?_
                simp only [Act.put]
                refine wpAnyH_take (i := 23) (v := .bool true) rfl (by kernel_rfl) (by kernel_rfl) (by kernel_rfl) (fun _ _ _ h => h) (Or.inl ⟨by kernel_rfl, fun w' hw' => by clear hw'; go_simp⟩) hH ?_
                simp only [Act.put]
                refine wpAnyH_take (i := 24) (v := .pointer (some ⟨p, 0, none⟩)) rfl (by kernel_rfl) (by kernel_rfl) (by kernel_rfl) (fun _ _ _ h => h) (Or.inl ⟨by kernel_rfl, fun w' hw' => by clear hw'; go_simp⟩) hH ?_
                simp only [Act.put]
                refine wpAnyH_take (i := 26) (v := .slice A8 nt c8) rfl (by kernel_rfl) (by kernel_rfl) (by kernel_rfl) (fun _ _ _ h => h) (Or.inl ⟨by kernel_rfl, fun w' hw' => by clear hw'; go_simp⟩) hH ?_
                simp only [Act.put]
                refine wpAnyH_ready (rs := [25]) (by kernel_rfl) (by simp) ?_
                refine AllReadyH.cons rfl (fun K hK => ?_) AllReadyH.nil
                rw [if_pos (by kernel_rfl)]
                go_simp
                go_at_call 24
                refine ((HS9.out.below hH).look (fun fp hk => HTC.out fp _ hk)).mono ?_
                rintro e wa3 ⟨A9, c9, rfl, hc9, hr9, hbz⟩
                go_wp2_with fail
                refine hK.out _ _ (hH.trans (Below.mono hbz hH.size)) (fun hH => ?_)
                clear hK K
                try simp only [Act.put]
                refine wpAnyH_ready (rs := [27]) (by kernel_rfl) (by simp) ?_
                refine AllReadyH.cons rfl (fun K hK => ?_) AllReadyH.nil
                rw [if_pos (by kernel_rfl)]
                go_simp
                go_at_call 23
                refine (samet_any A9 A8 _ nt c9 c8 wa3.heap.size wa3 hr9 (HRD8.out _ hH) HNT.out hc9 hc8 (Nat.le_refl _) (by omega)).mono ?_
                rintro e wa4 ⟨rfl, hbz⟩
                go_wp2_with fail
                refine hK.out _ _ (hH.trans (Below.mono hbz hH.size)) (fun hH => ?_)
                clear hK K
                try simp only [Act.put]
                refine wpAnyH_take (i := 28) (v := .bool true) rfl (by kernel_rfl) (by kernel_rfl) (by kernel_rfl) (fun _ _ _ h => h) (Or.inl ⟨by kernel_rfl, fun w' hw' => by clear hw'; go_simp⟩) hH ?_
                simp only [Act.put]
                refine wpAnyH_ready (rs := [29]) (by kernel_rfl) (by simp) ?_
                refine AllReadyH.cons rfl (fun K hK => ?_) AllReadyH.nil
                rw [if_pos (by kernel_rfl)]
                go_simp
                refine hK.out _ _ hH (fun hH => ?_)
                clear hK K
                try simp only [Act.put]
                refine wpAnyH_done (by kernel_rfl) ?_ _
                try simp only [Act.put]
                go_wp2_with fail
                go_ret
                have hfr := (HS9.out.below hH).frame
                exact ⟨rfl, HB1.out.trans (hfr.mono HB1.out.size)⟩
              · rw [decide_eq_false hrt] at HRT
                clear hrt
                go_wp2_with (first
                  | (refine wpList_load_row rfl 31 (.tmp 10) rfl bx rfl 31 ([.int .i64 mv, .int .i64 (mo + 1), .int .i64 mv, .int .u64 (ms : Int), .int .i64 xc, .int .i64 xs, .int .i64 (xr + 1), .int .i64 5, .string ids] : List Value).toArray (0, 0) _ HRB.out.arr' Tryz.underlying31 rfl HZE.out ?_)
                  | (go_at_call 30; refine (HRT.out _).mono ?_; rintro e w7 ⟨rfl, hx⟩; replace HS3 := hid (HS3.out.below hx); clear hx))
                go_ret
                have hfr := HS3.out.frame
                exact ⟨rfl, HB1.out.trans (hfr.mono HB1.out.size)⟩
end Go.Proofs.YtdimlfjepliflaaGreatDoor
