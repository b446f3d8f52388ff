/-
  The walk of MachineBack.
-/
import Derived.Test.YtdimlfjepliflaaGreatDoorMUnpX
import Derived.Test.YtdimlfjepliflaaGreatDoorD14
import Derived.Test.YtdimlfjepliflaaGreatDoorD22
import Derived.Test.YtdimlfjepliflaaGreatDoorD23
import Derived.Test.YtdimlfjepliflaaGreatDoorD25
import Derived.Deep.CutRange
import Derived.Deep.DeepCutAuto
import Derived.BigQuiet
import Derived.Deep.RegionHeld
namespace Go.Proofs.YtdimlfjepliflaaGreatDoor
open Go.RowKit
set_option maxRecDepth 10000

/-- an answer's cells -/
def An.cl (a : An) : List Value := a.cells.toList
theorem Ma.pack_le {S : Ma} (h : S.WF) : S.pack.length ≤ 1920 := by
  have h1 := pack8_le h.w.t
  have h2 := pack_len S.w.B h.w.b
  have h3 := h.w.b.la
  have h4 := h.w.b.lt
  simp only [Ma.pack, packM, txt, List.length_append, le_len]
  omega
set_option maxHeartbeats 16000000 in
theorem mback_law (A : Option Addr) (n c : Nat) (XS : List En) (x1 : Int) (w : World) (hf : Fd w) (hn : n = XS.length) (_hc : n ≤ c) (hm : n ≤ 9223372036854775807) (hR : Rd w w.heap.size A (rows En.cl XS)) (hX : ∀ X ∈ XS, X.good) (_hx : -9223372036854775808 ≤ x1 ∧ x1 ≤ 9223372036854775807) : Calls Tryz.prog 5 #[.slice A n c, .int .i64 x1] w (Yes w) := by
  have HAW := hid (fun W hW => mawake_any W hW)
  have HPU := hid (fun W (hW : Below w.heap.size w W) => put_law A XS n c W (hf.below hW hf.1) ((hR.below hW (Nat.le_refl _)).more hW.size) hn hm hX)
  have HNW := hid (fun W => mnew_any W)
  have HF := hid hf
  have HZE := hid esize
  have HZ := hid asize
  have HZM := hid msize
  obtain ⟨hpg, hp60⟩ := put_good XS hX
  generalize put XS = L at *
  obtain ⟨nl, hnl⟩ : ∃ nl, nl = L.length := ⟨_, rfl⟩
  have HPU2 : Hid (∀ W, Below w.heap.size w W → Calls Tryz.prog 9 #[.slice A n c] W fun e w' => ∃ A1 c1, e = .returned (.slice A1 nl c1) ∧ nl ≤ c1 ∧ Rd w' w'.heap.size A1 (rows En.cl L) ∧ Below W.heap.size W w') := hid fun W hW => (HPU.out W hW).mono fun e w' hh => by
    obtain ⟨A1, c1, e1, h1, h2, h3, -⟩ := hh
    rw [← hnl] at e1 h1
    exact ⟨A1, c1, e1, h1, h2, h3⟩
  rw [← hnl] at hp60
  have HNL := hid hnl
  have HPG := hid hpg
  have HPA := hid (fun k (hk : k ≤ L.length) => playA_wf L hpg k hk)
  have HPS := hid (fun k (hk : k < L.length) => playA_succ L k hk)
  have HP0 := hid (playA_zero L)
  clear hf hn hR hX hpg hnl HPU
  have HCA := mod_code x1 (nl + 1) (by omega) (by omega)
  have huw : IntKind.u64.wrap ((nl : Int) + 1) = (nl : Int) + 1 := u64_small (nl + 1) (by omega)
  have hlw : IntKind.i64.wrap ((nl : Int) + 1) = (nl : Int) + 1 := IntWalk.i64_in _ ⟨by omega, by omega⟩
  have hlw2 : wrap64 ((nl : Int) + 1) = (nl : Int) + 1 := IntWalk.wrap64_in _ ⟨by omega, by omega⟩
  have hkl := modS_lt x1 (nl + 1) (by omega)
  obtain ⟨kc, hkk⟩ : ∃ kc, kc = modS x1 (nl + 1) := ⟨_, rfl⟩
  rw [← hkk] at hkl HCA
  have hcn : ((nl : Int) + 1 == 0) = false := by simp; omega
  have hcn2 : ((nl : Int) + 1 = 0) = False := by simp; omega
  have hkc : kc ≤ nl := by omega
  rw [show (((nl + 1 : Nat) : Int)) = (nl : Int) + 1 by simp] at HCA
  clear hkk hkl
  go_enter Tryz.func5, Tryz.ntmps5
  go_wp2_with (first
    | (go_at_call 8; refine (HAW.out _ HF.out).mono ?_; rintro e wa ⟨rfl, hx⟩; have HBA := hid hx; clear hx)
    | (go_at_call 9; refine (HPU2.out _ HBA.out).mono ?_; rintro e w1 ⟨A1, c1, rfl, hc1, hr1, hx⟩; have HB1 := hid (HBA.out.trans (hx.mono HBA.out.size)); have HR1 := hid hr1; clear hx hr1)
    | (go_at_call 10; refine (HNW.out _).mono ?_; rintro e w2 ⟨p, fp, rfl, hk, hfp, hx⟩; have HS := hid (Sg.mk' (w0 := w1) (Below.refl _ _) hk hfp hx); clear hk hfp hx))
  have HF1 := hid (HF.out.below HB1.out HF.out.1)
  clear hcn hcn2 huw hlw hlw2 HCA
  go_loopw [6] (fun iv wr => ∃ k : Nat, k ≤ kc ∧ iv = .int .i64 (k : Int) ∧ Sg w1 KP p (playA L k) [] wr) (fun iv _ => kc - (intOf iv).toNat)
  case atStart => exact ⟨0, by omega, rfl, by rw [HP0.out]; exact HS.out⟩
  case round =>
    obtain ⟨k, hk, rfl, hsr⟩ := hrel
    have HSR := hid hsr
    clear hsr HS
    by_cases hlt : k < kc
    · have hkl : k < L.length := by rw [← HNL.out]; omega
      obtain ⟨ga, o, rfl⟩ := shape_of HR1.out En.cl_len (by decide) (by omega)
      have HRX := hid (fun W (hW : Below w1.heap.size w1 W) => range_of (HR1.out.below hW (Nat.le_refl _)) En.cl_len hkl)
      have HAP := hid (fun fp W hW hk => mapp_any p (playA L k) fp L[k] W (HPG.out _ (List.getElem_mem hkl)).1 hW hk)
      rw [← HPS.out k hkl] at HAP
      have HAP2 : Hid (∀ fp W, Fd W → Hm KP p (playA L k) fp W → Calls Tryz.prog 12 #[.pointer (some ⟨p, 0, none⟩), .agg L[k].cl.toArray] W fun x w' => x = .returned (.tuple #[((playA L k).appA L[k]).val, .int .i64 ((playA L k).appE L[k])]) ∧ Hmw KP p W fp (playA L (k + 1)) w') := hid HAP.out
      have HZX : Hid ((Tryz.prog.info? 31).map (·.size) = some L[k].cl.toArray.size) := hid (ecells_size L[k])
      have hi0 : (0 : Int) ≤ (k : Int) := by omega
      have hi1 : (k : Int) < (nl : Int) := by omega
      have hi2 : (k : Int) < (kc : Int) := by omega
      generalize ((playA L k).appA L[k]).val = av at *
      generalize (playA L k).appE L[k] = ev at *
      generalize L[k].cl = X at *
      clear HAP
      go_wp2_with (first
        | (refine wpList_load_mid rfl 31 (.tmp 36) rfl ga (o + k * 9) rfl X _ (HRX.out _ HSR.out.frame) Tryz.underlying31 rfl HZX.out ?_)
        | (go_at_call 12; refine (HSR.out.call (fun fp hk => HAP2.out fp _ (HF1.out.below HSR.out.frame HF1.out.1) hk)).mono ?_; rintro e w4 ⟨rfl, hs4, -⟩; have HS4 := hid hs4; clear hs4))
      exact ⟨⟨k + 1, by omega, by go_num, HS4.out⟩, by simp [intOf]; omega⟩
    · obtain rfl : k = kc := by omega
      have hi1 : ¬ (k : Int) < (k : Int) := by omega
      obtain ⟨hwf, -⟩ := HPA.out k (by rw [← HNL.out]; exact hkc)
      have HPK := hid (fun p fp W (hk : Hm KP p (playA L k) fp W) => mpack_any p (playA L k) fp W hwf hk)
      have HUN := hid (fun W => munpack_yes (playA L k) hwf W)
      have hple := Ma.pack_le hwf
      rw [show (playA L k).pack.length = (⟨(playA L k).pack.toArray⟩ : ByteArray).size by rw [← sb_len, sb_mk]] at hple
      unfold SE at HPK
      generalize (⟨(playA L k).pack.toArray⟩ : ByteArray) = sp at *
      have hpl1 : ¬ (1920 : Int) < (sp.size : Int) := by omega
      have hpl2 : (sp.toList == sp.toList) = true := by simp
      clear hwf hple
      go_wp2_with (first
        | (go_at_call 25; refine (HTG.out.snd.look (fun fp hk => HPK.out q fp _ hk)).mono ?_; rintro e w5 ⟨rfl, hb5⟩; have HT5 := hid (HTG.out.below hb5); clear hb5)
        | (go_at_call 25; refine (HSR.out.look (fun fp hk => HPK.out p fp _ hk)).mono ?_; rintro e w3 ⟨rfl, hb3⟩; have HS3 := hid (HSR.out.below hb3); clear hb3)
        | (go_at_call 29; refine (HUN.out _).mono ?_; rintro e w4 ⟨q, fq, rfl, hkq, hfq, hx⟩; have HTG := hid (HS3.out.two hx hkq hfq); clear hkq hfq hx HUN))
      clear HTG HS3 HSR HPK hpl1 hpl2
      go_loopw [10] (fun iv wr => ∃ j : Nat, j ≤ nl ∧ iv = .int .i64 (j : Int) ∧ Tg w1 KP p (playA L j) KP q (playA L j) [] wr) (fun iv _ => nl - (intOf iv).toNat)
      case atStart => exact ⟨k, by omega, rfl, HT5.out⟩
      case round =>
        clear hi1 hlt hk
        obtain ⟨j, hj, rfl, htr⟩ := hrel
        have HTR := hid htr
        clear htr HT5
        by_cases hlt : j < nl
        · have hkl : j < L.length := by rw [← HNL.out]; exact hlt
          obtain ⟨ga, o, rfl⟩ := shape_of HR1.out En.cl_len (by decide) (by omega)
          have HRX := hid (fun W (hW : Below w1.heap.size w1 W) => range_of (HR1.out.below hW (Nat.le_refl _)) En.cl_len hkl)
          have HAP := hid (fun p fp W hW hk => mapp_any p (playA L j) fp L[j] W (HPG.out _ (List.getElem_mem hkl)).1 hW hk)
          rw [← HPS.out j hkl] at HAP
          obtain ⟨an, han⟩ : ∃ an, an = (playA L j).appA L[j] := ⟨_, rfl⟩
          have HAP2 : Hid (∀ p fp W, Fd W → Hm KP p (playA L j) fp W → Calls Tryz.prog 12 #[.pointer (some ⟨p, 0, none⟩), .agg L[j].cl.toArray] W fun x w' => x = .returned (.tuple #[.agg an.cl.toArray, .int .i64 ((playA L j).appE L[j])]) ∧ Hmw KP p W fp (playA L (j + 1)) w') := hid (by rw [han]; exact HAP.out)
          have HZX : Hid ((Tryz.prog.info? 31).map (·.size) = some L[j].cl.toArray.size) := hid (ecells_size L[j])
          have hi0 : (0 : Int) ≤ (j : Int) := by omega
          have hi1 : (j : Int) < (nl : Int) := by omega
          clear HAP han
          generalize (playA L j).appE L[j] = ev at *
          generalize L[j].cl = X at *
          obtain ⟨ak, acl, asn, arq, aop, ab⟩ := an
          have hee : (ev != ev) = false := by simp
          go_wp2_with (first
            | (refine wpList_load_mid rfl 31 (.tmp 74) rfl ga (o + j * 9) rfl X _ (HRX.out _ HTR.out.frame) Tryz.underlying31 rfl HZX.out ?_)
            | (refine wpList_load_mid rfl 31 (.tmp 83) rfl ga (o + j * 9) rfl X _ (HRX.out _ HTB.out.frame) Tryz.underlying31 rfl HZX.out ?_)
            | (go_at_call 12; refine (HTB.out.call2 (fun fp hk => HAP2.out q fp _ (HF1.out.below HTB.out.frame HF1.out.1) hk)).mono ?_; rintro e w8 ⟨rfl, ht8, hkg⟩; have HTC := hid ht8; have HR8 := hid (hkg.row HR7.out (by simp)); clear ht8 hkg)
            | (refine wpl_store_st rfl (.tmp 11) (.tmp 77) rfl HZ.out w6.heap.size an0.cells.toList [.int .i64 ak, .int .i64 acl, .int .i64 asn, .int .i64 arq, .int .i64 aop, .string ab] rfl rfl (Row.new _ _ _) ?_ (hid rfl) (hid rfl) (hid rfl); intro w7 hr7 hg7; have HR7 := hid hr7; have hb7 := ((Below.refl w6.heap.size w6).alloc (Nat.le_refl _) (.cells an0.cells 33)).trans (below_grown hg7 (Nat.le_refl _) (by simp)); have HTB := hid (HTA.out.add hb7 (Nat.le_refl _) hr7.lt); clear hr7 hg7 hb7)
            | (go_at_call 12; refine (HTR.out.call1 (fun fp hk => HAP2.out p fp _ (HF1.out.below HTR.out.frame HF1.out.1) hk)).mono ?_; rintro e w6 ⟨rfl, ht6, -⟩; have HTA := hid ht6; clear ht6)
            | (refine wpl_store_st rfl (.tmp 13) (.tmp 86) rfl HZ.out w8.heap.size an0.cells.toList [.int .i64 ak, .int .i64 acl, .int .i64 asn, .int .i64 arq, .int .i64 aop, .string ab] rfl rfl (Row.new _ _ _) ?_ (hid rfl) (hid rfl) (hid rfl); intro w9 hr9 hg9; have HR9 := hid hr9; have hb9 := ((Below.refl w8.heap.size w8).alloc (Nat.le_refl _) (.cells an0.cells 33)).trans (below_grown hg9 (Nat.le_refl _) (by simp)); have HTD := hid (HTC.out.below hb9); have HR8b := hid (HR8.out.below hb9 HR8.out.lt); clear hr9 hg9 hb9)
            | (refine wpList_load_row rfl 33 (.tmp 11) rfl w6.heap.size rfl 33 ([.int .i64 ak, .int .i64 acl, .int .i64 asn, .int .i64 arq, .int .i64 aop, .string ab] : List Value).toArray (0, 0) _ HR8b.out.arr' Tryz.underlying33 rfl HZ.out ?_)
            | (refine wpList_load_row rfl 33 (.tmp 13) rfl w8.heap.size rfl 33 ([.int .i64 ak, .int .i64 acl, .int .i64 asn, .int .i64 arq, .int .i64 aop, .string ab] : List Value).toArray (0, 0) _ HR9.out.arr' Tryz.underlying33 rfl HZ.out ?_)
            | (refine wpl_nea (by kernel_rfl) (⟨ak, acl, asn, arq, aop, ab⟩ : An) (.tmp 88) (.tmp 89) 33 rfl rfl rfl ?_))
          exact ⟨⟨j + 1, by omega, by go_num, HTD.out.sub (by simp)⟩, by simp [intOf]; omega⟩
        · obtain rfl : j = nl := by omega
          have hi1 : ¬ (j : Int) < (j : Int) := by omega
          obtain ⟨hwf, -⟩ := HPA.out j (by rw [← HNL.out]; exact Nat.le_refl _)
          have HPK := hid (fun p fp W (hk : Hm KP p (playA L j) fp W) => mpack_any p (playA L j) fp W hwf hk)
          unfold SE at HPK
          generalize (⟨(playA L j).pack.toArray⟩ : ByteArray) = sp at *
          have hpl2 : (sp.toList == sp.toList) = true := by simp
          clear hwf
          go_wp2_with (first
            | (go_at_call 25; refine (HT6.out.fst.look (fun fp hk => HPK.out p fp _ hk)).mono ?_; rintro e w7 ⟨rfl, hb7⟩; have HT7 := hid (HT6.out.below hb7); clear hb7)
            | (go_at_call 25; refine (HTR.out.snd.look (fun fp hk => HPK.out q fp _ hk)).mono ?_; rintro e w6 ⟨rfl, hb6⟩; have HT6 := hid (HTR.out.below hb6); clear hb6))
          go_ret
          have hfr := HT7.out.frame
          exact ⟨rfl, HB1.out.trans (hfr.mono HB1.out.size)⟩
end Go.Proofs.YtdimlfjepliflaaGreatDoor
