/-
  The walk of the document's Write.
-/
import Derived.Test.YtogchfpecbmocaaRw
namespace Go.Proofs.Ytogchfpecbmocaa
open Go.RowKit
set_option maxRecDepth 10000

set_option maxHeartbeats 4000000 in
theorem rwrite_s (q gl gm cl cm : Nat) (vw : Value) (S : Sp) (s : Su) (hf : s.fits) (w : World) (h : HasR w q gl gm cl cm vw S) (hc : S.count ≤ 900000) :
    Calls Try.prog 20 #[dptr q, s.val] w (RY w q gl gm cl cm vw (writeU S s).1 (writeU S s).2) := by
  have HZS := hid superSize
  have HPK : Hid (∀ W, Calls Try.prog 10 #[.agg s.cells] W fun e w' => e = .returned (.tuple #[.string ⟨(packU s).1.toArray⟩, .int .i64 (packU s).2]) ∧ Below W.heap.size W w') := hid fun W => rpack_any s hf W
  have e0 : writeU S s = if SR s then wrK S s 4 else (S, 4) := rfl
  have ep : packU s = if SR s then (s.bytes, 0) else ([], 4) := rfl
  have HH := hid h
  show Calls Try.prog 20 #[.pointer (some ⟨q, 0, none⟩), .agg s.cells] w _
  by_cases hs : SR s
  · rw [if_pos hs] at e0
    have HWU := hid e0
    generalize writeU S s = RES at *
    rw [ep, if_pos hs] at HPK
    have HCNT := hid (wrK_count S s)
    have hbl := bytes_len s
    obtain ⟨bs, hbs⟩ : ∃ bs, bs = s.bytes := ⟨_, rfl⟩
    rw [← hbs] at HPK hbl
    have HBL := hid (show (⟨bs.toArray⟩ : ByteArray).size ≤ 376 by rw [mk_size, hbl]; omega)
    have HBS := hid hbs
    have HSR := hid hs
    have HCC := hid hc
    have HBX := hid h.lt
    clear e0 ep hf hs hbl hbs hc h
    go_enter Try.func20, Try.ntmps20
    go_wp2_with (first
      | (refine wpList_load_row rfl 27 (.tmp 3) rfl w.heap.size rfl 27 s.cells (0, 0) _ (heap_alloc_new _ _) Try.underlying27 rfl HZS.out ?_)
      | (go_at_call 10; refine (HPK.out _).mono ?_; rintro e w1 ⟨rfl, hb1⟩))
    have M0 : Hid (MidR w w1 q gl gm cl cm vw w.heap.size s S) := hid (by
      have hb : Below w.heap.size w w1 := ((Below.refl _ _).alloc (Nat.le_refl _) _).trans (hb1.mono (by simp))
      have k1 := HH.out.below hb
      have k3 : Fr w w1 (fpR q gl gm vw) := (Fr.of_below hb).mono (by simp)
      exact ⟨⟨vw, k1, k3, fun g hg => .inl hg⟩, (Row.new w 27 s.cells).below hb1 (by simp), vw, k1, fun hm => Nat.lt_irrefl _ (HBX.out _ hm), k3, fun g hg => .inl hg⟩)
    clear hb1
    generalize w.heap.size = box at M0 ⊢
    go_loopw [7] (fun i wr => ∃ k : Nat, k ≤ 4 ∧ i = .int .i64 k ∧ Hid ((wrK S s k).2 = 0) ∧ MidR w wr q gl gm cl cm vw box s (wrK S s k).1) (fun i _ => 4 - (intOf i).toNat)
    case atStart => exact ⟨0, by omega, rfl, hid rfl, M0.out⟩
    case round =>
      obtain ⟨k, hk, rfl, hst, hm⟩ := hrel
      have HM := hid hm
      by_cases hlt : k < 4
      · have hck := HCNT.out k
        have hc := HCC.out
        have HSTP := hid (wrK_stop S s (k + 1))
        have e2 : wrK S s (k + 1) = wrS (wrK S s k).1 s k := by rw [wrK, if_neg (by rw [hst.out]; simp)]
        have hwfl := read_len (wrK S s k).1 (by obtain ⟨vk, k1, _⟩ := hm.nb; exact k1.wf) k
        have HRD : Hid (Calls Try.prog 34 #[.pointer (some ⟨q, 0, none⟩), .int .i64 (k : Int)] wr fun e w' => e = .returned (.tuple #[.string ⟨((wrK S s k).1.read k).1.toArray⟩, .int .i64 ((wrK S s k).1.read k).2]) ∧ w' = wr) := hid (by
          obtain ⟨vk, k1, _⟩ := hm.nb
          refine (rread_any q gl gm cl cm vk (wrK S s k).1 k wr k1 (by omega)).mono ?_
          rintro e w' ⟨rfl, rfl⟩
          exact ⟨rfl, rfl⟩)
        have HHS := hid (fun W => rhas_any ((wrK S s k).1.read k).1 W)
        have HSL : Hid (∀ W, Calls Try.prog 49 #[.string ⟨((wrK S s k).1.read k).1.toArray⟩, .string ⟨bs.toArray⟩] W fun e w' => e = .returned (.tuple #[.string ⟨(layS (nextS ((wrK S s k).1.read k).1) bs).toArray⟩, .int .i64 0]) ∧ Below W.heap.size W w') := hid fun W => by
          have h1 := rseal_calls ⟨((wrK S s k).1.read k).1.toArray⟩ ⟨bs.toArray⟩ W (by rw [mk_size]; omega)
          have e : sealS (sb ⟨((wrK S s k).1.read k).1.toArray⟩) (sb ⟨bs.toArray⟩) = (layS (nextS ((wrK S s k).1.read k).1) bs, 0) := by
            rw [sb_mk, sb_mk]
            unfold sealS
            rw [if_neg (by have := HBL.out; rw [mk_size] at this; omega)]
          rw [e] at h1
          exact h1
        have e3 : wrS (wrK S s k).1 s k = if ((wrK S s k).1.read k).2 ≠ 0 then ((wrK S s k).1, ((wrK S s k).1.read k).2) else if hasU ((wrK S s k).1.read k).1 = s then ((wrK S s k).1, 0) else layU (wrK S s k).1 k (layS (nextS ((wrK S s k).1.read k).1) bs) := by rw [HBS.out]; rfl
        have hend : (wrK S s (k + 1)).2 ≠ 0 → wrK S s 4 = wrK S s (k + 1) := fun he => by
          have := HSTP.out he (4 - (k + 1))
          rw [show k + 1 + (4 - (k + 1)) = 4 by omega] at this
          exact this
        have HEND := hid hend
        clear hend HSTP hm hwfl
        by_cases herr : ((wrK S s k).1.read k).2 = 0
        · rw [e3, if_neg (by simpa using herr)] at e2
          rw [herr] at HRD
          clear e3 herr
          generalize ((wrK S s k).1.read k).1 = l at *
          generalize hasU l = x at *
          by_cases hx : x = s
          · rw [if_pos hx] at e2
            have HEQ := hid (show decide (x = s) = true by simp [hx])
            have H2 := hid e2
            rw [show decide (SR x) = true by rw [hx]; exact decide_eq_true HSR.out] at HHS
            clear e2 hx hck hc HSL HEND
            go_wp2_with (first
              | (go_at_call 48; refine (HHS.out _).mono ?_; rintro e w2 ⟨rfl, hb2⟩; have md2 := HM.out.below hb2; have hne : box < w2.heap.size := (by have := hb2.size; have := HM.out.row.lt; omega); clear hb2)
              | (go_at_call 34; refine HRD.out.mono ?_; rintro e w1 ⟨rfl, rfl⟩)
              | (refine wpl_store_st rfl (.tmp 10) (.tmp 38) rfl (n := 17) HZS.out w2.heap.size su0.cells x.cells rfl rfl (Row.new _ _ _) ?_ (hid rfl) (hid rfl) (cells_one _); intro w3 HR3 HB3; have md3 := md2.below (((Below.refl w2.heap.size w2).alloc (Nat.le_refl _) (.cells su0.cells 27)).trans (below_grown HB3 (Nat.le_refl _) (by simp))); clear md2 HB3)
              | (refine wpl_load_want rfl 27 (.tmp 10) rfl w2.heap.size rfl 27 x.cells (0, 0) _ HR3.arr Try.underlying27 rfl HZS.out ?_)
              | (refine wpl_load_want rfl 27 (.tmp 3) rfl box rfl 27 s.cells (0, 0) _ md3.row.arr Try.underlying27 rfl HZS.out ?_)
              | (refine wpl_eqsu rfl x s true HEQ.out (.tmp 42) (.tmp 43) _ rfl rfl rfl ?_))
            go_roundw
            case rel => exact ⟨k + 1, by omega, by go_num, hid (by rw [H2.out]), by rw [H2.out]; exact md3⟩
            case measure => simp [intOf]; omega
          · rw [if_neg hx] at e2
            have HEQ := hid (show decide (x = s) = false by simp [hx])
            generalize layS (nextS l) bs = l2 at *
            have hwc := (wrK S s k).1.write_count k l2
            have HWR : Hid (∀ W vk, HasR W q gl gm cl cm vk (wrK S s k).1 → Calls Try.prog 50 #[.pointer (some ⟨q, 0, none⟩), .int .i64 (k : Int), .string ⟨l2.toArray⟩] W (RY W q gl gm cl cm vk ((wrK S s k).1.write k l2).1 ((wrK S s k).1.write k l2).2)) := hid fun W vk hW => ry_write hW (by omega) k ⟨l2.toArray⟩ (by rw [sb_mk])
            have HFL : Hid (∀ W vk, HasR W q gl gm cl cm vk ((wrK S s k).1.write k l2).1 → Calls Try.prog 51 #[.pointer (some ⟨q, 0, none⟩)] W (RY W q gl gm cl cm vk ((wrK S s k).1.write k l2).1.flush.1 ((wrK S s k).1.write k l2).1.flush.2)) := hid fun W vk hW => ry_flush hW (by omega) rfl
            have el : layU (wrK S s k).1 k l2 = if ((wrK S s k).1.write k l2).2 ≠ 0 then (wrK S s k).1.write k l2 else ((wrK S s k).1.write k l2).1.flush := rfl
            clear hx hck hc hwc
            cases hsx : decide (SR x) with
            | true =>
              rw [hsx] at HHS
              clear hsx
              by_cases hz : ((wrK S s k).1.write k l2).2 = 0
              · rw [if_neg (by simpa using hz)] at el
                rw [hz] at HWR
                by_cases hy : (((wrK S s k).1.write k l2).1.flush).2 = 0
                · have H2 := hid (e2.trans el)
                  have HY := hid hy
                  rw [hy] at HFL
                  clear hz hy el e2 HEND
                  go_wp2_with (first
                    | (go_at_call 48; refine (HHS.out _).mono ?_; rintro e w2 ⟨rfl, hb2⟩; have md2 := HM.out.below hb2; have hne : box < w2.heap.size := (by have := hb2.size; have := HM.out.row.lt; omega); clear hb2)
                    | (go_at_call 34; refine HRD.out.mono ?_; rintro e w1 ⟨rfl, rfl⟩)
                    | (refine wpl_store_st rfl (.tmp 10) (.tmp 38) rfl (n := 17) HZS.out w2.heap.size su0.cells x.cells rfl rfl (Row.new _ _ _) ?_ (hid rfl) (hid rfl) (cells_one _); intro w3 HR3 HB3; have md3 := md2.below (((Below.refl w2.heap.size w2).alloc (Nat.le_refl _) (.cells su0.cells 27)).trans (below_grown HB3 (Nat.le_refl _) (by simp))); clear md2 HB3)
                    | (go_at_call 49; refine (HSL.out _).mono ?_; rintro e w5 ⟨rfl, hb5⟩; have md5 := md3.below hb5; clear hb5)
                    | (go_at_call 50; obtain ⟨vk, k1, k2, k3, k4⟩ := md5.nb; have K4 := hid k4; clear k4; refine (HWR.out _ _ k1).mono ?_; rintro e w6 ⟨rfl, hd6⟩; have md6 := md5.step k2 k3 K4.out hd6; clear hd6 k1 k2 k3 K4)
                    | (go_at_call 51; obtain ⟨vk, k1, k2, k3, k4⟩ := md6.nb; have K4 := hid k4; clear k4; refine (HFL.out _ _ k1).mono ?_; rintro e w7 ⟨rfl, hd7⟩; have md7 := md6.step k2 k3 K4.out hd7; clear hd7 k1 k2 k3 K4)
                    | (refine wpl_load_want rfl 27 (.tmp 10) rfl w2.heap.size rfl 27 x.cells (0, 0) _ HR3.arr Try.underlying27 rfl HZS.out ?_)
                    | (refine wpl_load_want rfl 27 (.tmp 3) rfl box rfl 27 s.cells (0, 0) _ md3.row.arr Try.underlying27 rfl HZS.out ?_)
                    | (refine wpl_eqsu rfl x s false HEQ.out (.tmp 42) (.tmp 43) _ rfl rfl rfl ?_))
                  go_roundw
                  case rel => exact ⟨k + 1, by omega, by go_num, hid (by rw [H2.out]; exact HY.out), by rw [H2.out]; exact md7⟩
                  case measure => simp [intOf]; omega
                · rw [e2.trans el] at HEND
                  have HE2 := hid (HEND.out hy)
                  have hy2 : ((((wrK S s k).1.write k l2).1.flush).2 != 0) = true := by simpa using hy
                  generalize ((wrK S s k).1.write k l2).1.flush = R at *
                  clear hz hy el e2 HEND
                  have HY := hid hy2
                  clear hy2
                  have hy2 := HY.out
                  go_wp2_with (first
                    | (go_at_call 48; refine (HHS.out _).mono ?_; rintro e w2 ⟨rfl, hb2⟩; have md2 := HM.out.below hb2; have hne : box < w2.heap.size := (by have := hb2.size; have := HM.out.row.lt; omega); clear hb2)
                    | (go_at_call 34; refine HRD.out.mono ?_; rintro e w1 ⟨rfl, rfl⟩)
                    | (refine wpl_store_st rfl (.tmp 10) (.tmp 38) rfl (n := 17) HZS.out w2.heap.size su0.cells x.cells rfl rfl (Row.new _ _ _) ?_ (hid rfl) (hid rfl) (cells_one _); intro w3 HR3 HB3; have md3 := md2.below (((Below.refl w2.heap.size w2).alloc (Nat.le_refl _) (.cells su0.cells 27)).trans (below_grown HB3 (Nat.le_refl _) (by simp))); clear md2 HB3)
                    | (go_at_call 49; refine (HSL.out _).mono ?_; rintro e w5 ⟨rfl, hb5⟩; have md5 := md3.below hb5; clear hb5)
                    | (go_at_call 50; obtain ⟨vk, k1, k2, k3, k4⟩ := md5.nb; have K4 := hid k4; clear k4; refine (HWR.out _ _ k1).mono ?_; rintro e w6 ⟨rfl, hd6⟩; have md6 := md5.step k2 k3 K4.out hd6; clear hd6 k1 k2 k3 K4)
                    | (go_at_call 51; obtain ⟨vk, k1, k2, k3, k4⟩ := md6.nb; have K4 := hid k4; clear k4; refine (HFL.out _ _ k1).mono ?_; rintro e w7 ⟨rfl, hd7⟩; have md7 := md6.step k2 k3 K4.out hd7; clear hd7 k1 k2 k3 K4)
                    | (refine wpl_load_want rfl 27 (.tmp 10) rfl w2.heap.size rfl 27 x.cells (0, 0) _ HR3.arr Try.underlying27 rfl HZS.out ?_)
                    | (refine wpl_load_want rfl 27 (.tmp 3) rfl box rfl 27 s.cells (0, 0) _ md3.row.arr Try.underlying27 rfl HZS.out ?_)
                    | (refine wpl_eqsu rfl x s false HEQ.out (.tmp 42) (.tmp 43) _ rfl rfl rfl ?_))
                  go_ret
                  rw [HWU.out, HE2.out]
                  exact ⟨rfl, md7.dx⟩
              · rw [if_pos hz] at el
                rw [e2.trans el] at HEND
                have HE2 := hid (HEND.out hz)
                have hy2 : (((wrK S s k).1.write k l2).2 != 0) = true := by simpa using hz
                have hy3 : (((wrK S s k).1.write k l2).2 == 0) = false := by simpa using hz
                clear HFL
                generalize (wrK S s k).1.write k l2 = R at *
                clear hz el e2 HEND
                have HY := hid hy2
                have HY3 := hid hy3
                clear hy2 hy3
                have hy2 := HY.out
                have hy3 := HY3.out
                go_wp2_with (first
                  | (go_at_call 48; refine (HHS.out _).mono ?_; rintro e w2 ⟨rfl, hb2⟩; have md2 := HM.out.below hb2; have hne : box < w2.heap.size := (by have := hb2.size; have := HM.out.row.lt; omega); clear hb2)
                  | (go_at_call 34; refine HRD.out.mono ?_; rintro e w1 ⟨rfl, rfl⟩)
                  | (refine wpl_store_st rfl (.tmp 10) (.tmp 38) rfl (n := 17) HZS.out w2.heap.size su0.cells x.cells rfl rfl (Row.new _ _ _) ?_ (hid rfl) (hid rfl) (cells_one _); intro w3 HR3 HB3; have md3 := md2.below (((Below.refl w2.heap.size w2).alloc (Nat.le_refl _) (.cells su0.cells 27)).trans (below_grown HB3 (Nat.le_refl _) (by simp))); clear md2 HB3)
                  | (go_at_call 49; refine (HSL.out _).mono ?_; rintro e w5 ⟨rfl, hb5⟩; have md5 := md3.below hb5; clear hb5)
                  | (go_at_call 50; obtain ⟨vk, k1, k2, k3, k4⟩ := md5.nb; have K4 := hid k4; clear k4; refine (HWR.out _ _ k1).mono ?_; rintro e w6 ⟨rfl, hd6⟩; have md6 := md5.step k2 k3 K4.out hd6; clear hd6 k1 k2 k3 K4)
                  | (refine wpl_load_want rfl 27 (.tmp 10) rfl w2.heap.size rfl 27 x.cells (0, 0) _ HR3.arr Try.underlying27 rfl HZS.out ?_)
                  | (refine wpl_load_want rfl 27 (.tmp 3) rfl box rfl 27 s.cells (0, 0) _ md3.row.arr Try.underlying27 rfl HZS.out ?_)
                  | (refine wpl_eqsu rfl x s false HEQ.out (.tmp 42) (.tmp 43) _ rfl rfl rfl ?_))
                go_ret
                rw [HWU.out, HE2.out]
                exact ⟨rfl, md6.dx⟩
            | false =>
              rw [hsx] at HHS
              clear hsx
              by_cases hz : ((wrK S s k).1.write k l2).2 = 0
              · rw [if_neg (by simpa using hz)] at el
                rw [hz] at HWR
                by_cases hy : (((wrK S s k).1.write k l2).1.flush).2 = 0
                · have H2 := hid (e2.trans el)
                  have HY := hid hy
                  rw [hy] at HFL
                  clear hz hy el e2 HEND
                  go_wp2_with (first
                    | (go_at_call 48; refine (HHS.out _).mono ?_; rintro e w2 ⟨rfl, hb2⟩; have md2 := HM.out.below hb2; have hne : box < w2.heap.size := (by have := hb2.size; have := HM.out.row.lt; omega); clear hb2)
                    | (go_at_call 34; refine HRD.out.mono ?_; rintro e w1 ⟨rfl, rfl⟩)
                    | (refine wpl_store_st rfl (.tmp 10) (.tmp 38) rfl (n := 17) HZS.out w2.heap.size su0.cells x.cells rfl rfl (Row.new _ _ _) ?_ (hid rfl) (hid rfl) (cells_one _); intro w3 HR3 HB3; have md3 := md2.below (((Below.refl w2.heap.size w2).alloc (Nat.le_refl _) (.cells su0.cells 27)).trans (below_grown HB3 (Nat.le_refl _) (by simp))); clear md2 HB3)
                    | (go_at_call 49; refine (HSL.out _).mono ?_; rintro e w5 ⟨rfl, hb5⟩; have md5 := md3.below hb5; clear hb5)
                    | (go_at_call 50; obtain ⟨vk, k1, k2, k3, k4⟩ := md5.nb; have K4 := hid k4; clear k4; refine (HWR.out _ _ k1).mono ?_; rintro e w6 ⟨rfl, hd6⟩; have md6 := md5.step k2 k3 K4.out hd6; clear hd6 k1 k2 k3 K4)
                    | (go_at_call 51; obtain ⟨vk, k1, k2, k3, k4⟩ := md6.nb; have K4 := hid k4; clear k4; refine (HFL.out _ _ k1).mono ?_; rintro e w7 ⟨rfl, hd7⟩; have md7 := md6.step k2 k3 K4.out hd7; clear hd7 k1 k2 k3 K4)
                    | (refine wpl_load_want rfl 27 (.tmp 10) rfl w2.heap.size rfl 27 x.cells (0, 0) _ HR3.arr Try.underlying27 rfl HZS.out ?_)
                    | (refine wpl_load_want rfl 27 (.tmp 3) rfl box rfl 27 s.cells (0, 0) _ md3.row.arr Try.underlying27 rfl HZS.out ?_))
                  go_roundw
                  case rel => exact ⟨k + 1, by omega, by go_num, hid (by rw [H2.out]; exact HY.out), by rw [H2.out]; exact md7⟩
                  case measure => simp [intOf]; omega
                · rw [e2.trans el] at HEND
                  have HE2 := hid (HEND.out hy)
                  have hy2 : ((((wrK S s k).1.write k l2).1.flush).2 != 0) = true := by simpa using hy
                  generalize ((wrK S s k).1.write k l2).1.flush = R at *
                  clear hz hy el e2 HEND
                  have HY := hid hy2
                  clear hy2
                  have hy2 := HY.out
                  go_wp2_with (first
                    | (go_at_call 48; refine (HHS.out _).mono ?_; rintro e w2 ⟨rfl, hb2⟩; have md2 := HM.out.below hb2; have hne : box < w2.heap.size := (by have := hb2.size; have := HM.out.row.lt; omega); clear hb2)
                    | (go_at_call 34; refine HRD.out.mono ?_; rintro e w1 ⟨rfl, rfl⟩)
                    | (refine wpl_store_st rfl (.tmp 10) (.tmp 38) rfl (n := 17) HZS.out w2.heap.size su0.cells x.cells rfl rfl (Row.new _ _ _) ?_ (hid rfl) (hid rfl) (cells_one _); intro w3 HR3 HB3; have md3 := md2.below (((Below.refl w2.heap.size w2).alloc (Nat.le_refl _) (.cells su0.cells 27)).trans (below_grown HB3 (Nat.le_refl _) (by simp))); clear md2 HB3)
                    | (go_at_call 49; refine (HSL.out _).mono ?_; rintro e w5 ⟨rfl, hb5⟩; have md5 := md3.below hb5; clear hb5)
                    | (go_at_call 50; obtain ⟨vk, k1, k2, k3, k4⟩ := md5.nb; have K4 := hid k4; clear k4; refine (HWR.out _ _ k1).mono ?_; rintro e w6 ⟨rfl, hd6⟩; have md6 := md5.step k2 k3 K4.out hd6; clear hd6 k1 k2 k3 K4)
                    | (go_at_call 51; obtain ⟨vk, k1, k2, k3, k4⟩ := md6.nb; have K4 := hid k4; clear k4; refine (HFL.out _ _ k1).mono ?_; rintro e w7 ⟨rfl, hd7⟩; have md7 := md6.step k2 k3 K4.out hd7; clear hd7 k1 k2 k3 K4)
                    | (refine wpl_load_want rfl 27 (.tmp 10) rfl w2.heap.size rfl 27 x.cells (0, 0) _ HR3.arr Try.underlying27 rfl HZS.out ?_)
                    | (refine wpl_load_want rfl 27 (.tmp 3) rfl box rfl 27 s.cells (0, 0) _ md3.row.arr Try.underlying27 rfl HZS.out ?_))
                  go_ret
                  rw [HWU.out, HE2.out]
                  exact ⟨rfl, md7.dx⟩
              · rw [if_pos hz] at el
                rw [e2.trans el] at HEND
                have HE2 := hid (HEND.out hz)
                have hy2 : (((wrK S s k).1.write k l2).2 != 0) = true := by simpa using hz
                have hy3 : (((wrK S s k).1.write k l2).2 == 0) = false := by simpa using hz
                clear HFL
                generalize (wrK S s k).1.write k l2 = R at *
                clear hz el e2 HEND
                have HY := hid hy2
                have HY3 := hid hy3
                clear hy2 hy3
                have hy2 := HY.out
                have hy3 := HY3.out
                go_wp2_with (first
                  | (go_at_call 48; refine (HHS.out _).mono ?_; rintro e w2 ⟨rfl, hb2⟩; have md2 := HM.out.below hb2; have hne : box < w2.heap.size := (by have := hb2.size; have := HM.out.row.lt; omega); clear hb2)
                  | (go_at_call 34; refine HRD.out.mono ?_; rintro e w1 ⟨rfl, rfl⟩)
                  | (refine wpl_store_st rfl (.tmp 10) (.tmp 38) rfl (n := 17) HZS.out w2.heap.size su0.cells x.cells rfl rfl (Row.new _ _ _) ?_ (hid rfl) (hid rfl) (cells_one _); intro w3 HR3 HB3; have md3 := md2.below (((Below.refl w2.heap.size w2).alloc (Nat.le_refl _) (.cells su0.cells 27)).trans (below_grown HB3 (Nat.le_refl _) (by simp))); clear md2 HB3)
                  | (go_at_call 49; refine (HSL.out _).mono ?_; rintro e w5 ⟨rfl, hb5⟩; have md5 := md3.below hb5; clear hb5)
                  | (go_at_call 50; obtain ⟨vk, k1, k2, k3, k4⟩ := md5.nb; have K4 := hid k4; clear k4; refine (HWR.out _ _ k1).mono ?_; rintro e w6 ⟨rfl, hd6⟩; have md6 := md5.step k2 k3 K4.out hd6; clear hd6 k1 k2 k3 K4)
                  | (refine wpl_load_want rfl 27 (.tmp 10) rfl w2.heap.size rfl 27 x.cells (0, 0) _ HR3.arr Try.underlying27 rfl HZS.out ?_)
                  | (refine wpl_load_want rfl 27 (.tmp 3) rfl box rfl 27 s.cells (0, 0) _ md3.row.arr Try.underlying27 rfl HZS.out ?_))
                go_ret
                rw [HWU.out, HE2.out]
                exact ⟨rfl, md6.dx⟩
        · rw [e3, if_pos herr] at e2
          have HE2 := hid (HEND.out (by rw [e2]; exact herr))
          rw [e2] at HE2
          have HX := hid (show (((wrK S s k).1.read k).2 != 0) = true by simpa using herr)
          clear e2 e3 herr HEND HHS HSL hck hc
          generalize ((wrK S s k).1.read k).2 = y at *
          generalize ((wrK S s k).1.read k).1 = l at *
          have hx2 := HX.out
          go_wp2_with (go_at_call 34; refine HRD.out.mono ?_; rintro e w1 ⟨rfl, rfl⟩)
          go_ret
          rw [HWU.out, HE2.out]
          exact ⟨rfl, HM.out.dx⟩
      · obtain rfl : k = 4 := by omega
        clear hm
        go_wp2_with fail
        go_ret
        rw [HWU.out]
        exact ⟨by rw [hst.out]; rfl, HM.out.dx⟩
  · rw [e0, if_neg hs]
    rw [ep, if_neg hs] at HPK
    clear e0 ep hs
    go_enter Try.func20, Try.ntmps20
    go_wp2_with (first
      | (refine wpList_load_row rfl 27 (.tmp 3) rfl w.heap.size rfl 27 s.cells (0, 0) _ (heap_alloc_new _ _) Try.underlying27 rfl HZS.out ?_)
      | (go_at_call 10; refine (HPK.out _).mono ?_; rintro e w1 ⟨rfl, hb1⟩))
    go_ret
    exact ⟨rfl, RX.of (Fr.of_below (((Below.refl w.heap.size w).alloc (Nat.le_refl _) _).trans (hb1.mono (by simp)))) (RX.same (HH.out.below (((Below.refl w.heap.size w).alloc (Nat.le_refl _) _).trans (hb1.mono (by simp)))))⟩
end Go.Proofs.Ytogchfpecbmocaa
