/-
  The walk of LedgerSums.
-/
import Derived.Test.YtbofabmgfkploaaAgain
namespace Go.Proofs.Ytbofabmgfkploaa
open Go.RowKit
set_option maxRecDepth 10000

theorem cell_of {α : Type} {C : α → List Value} {w : World} {B g o m : Nat} {l : List α} (h : Rd w B (some ⟨g, o, none⟩) (rows C l)) (hC : ∀ x, (C x).length = m) {k : Nat} (hk : k < l.length) (j : Nat) (v : Value) (hv : (C l[k])[j]? = some v) : w.cell? ⟨g, o + k * m + j, none⟩ = some v := h.range hC k hk j v hv
set_option maxHeartbeats 4000000 in
theorem sums_walk (A : Option Addr) (n c : Nat) (S : Lg) (w : World) (hwf : S.WF) (hgd : S.Good)
    (HPL : Hid (∀ W : World, Below w.heap.size w W → Calls Try.prog 20 #[.slice A n c] W (NG 63 W S (fun p => .pointer (some ⟨p, 0, none⟩))))) :
    Calls Try.prog 4 #[.slice A n c] w fun e w' => e = .returned (.bool true) ∧ Below w.heap.size w w' := by
  have HAW := hid awake_any
  have HWF := hid hwf
  have HGD := hid hgd
  obtain ⟨na, hna⟩ : ∃ na, S.A.length = na := ⟨_, rfl⟩
  obtain ⟨nt, hnt⟩ : ∃ nt, S.T.length = nt := ⟨_, rfl⟩
  have hn8 : na ≤ 8 := by rw [← hna]; exact hwf.la
  have hn16 : nt ≤ 16 := by rw [← hnt]; exact hwf.lt
  have HLA : Hid (∀ p W, Sk w 63 p S W → Calls Try.prog 15 #[.pointer (some ⟨p, 0, none⟩)] W fun e w' => ∃ A c, e = .returned (.slice A na c) ∧ na ≤ c ∧ Rd w' w'.heap.size A (rows Ac.cells S.A) ∧ Below W.heap.size W w' ∧ NewA W A) := hid fun p W h => by obtain ⟨fp, h, _⟩ := h; rw [← hna]; exact accs_gk h
  have HLT : Hid (∀ p W, Sk w 63 p S W → Calls Try.prog 17 #[.pointer (some ⟨p, 0, none⟩)] W fun e w' => ∃ A c, e = .returned (.slice A nt c) ∧ nt ≤ c ∧ Rd w' w'.heap.size A (rows Tr.cells S.T) ∧ Below W.heap.size W w' ∧ NewA W A) := hid fun p W h => by obtain ⟨fp, h, _⟩ := h; rw [← hnt]; exact trs_gk h
  have HNA := hid hna
  have HNT := hid hnt
  clear hwf hgd hna hnt
  go_enter Try.func4, Try.ntmps4
  go_wp2_with (first
    | (go_at_call 10; refine (HAW.out _).mono ?_; rintro e w1 ⟨rfl, hx⟩; have HBB := hid hx; clear hx)
    | (go_at_call 20; refine (HPL.out _ HBB.out).mono ?_; rintro e w2 ⟨p, fp, rfl, hk, hf, hx⟩; have HSK := hid (Sk.mk' HBB.out hk hf hx); clear hx hk hf HPL)
    | (go_at_call 15; refine (HLA.out _ _ HSK.out).mono ?_; rintro e w4 ⟨A1, c1, rfl, hc1, hrd1, hx, -⟩; have HR1 := hid hrd1; have HC1 := hid hc1; replace HSK := hid (HSK.out.below hx); clear hx hrd1 hc1)
    | (go_at_call 17; refine (HLT.out _ _ HSK.out).mono ?_; rintro e w5 ⟨A2, c2, rfl, hc2, hrd2, hx, -⟩; have HR2 := hid hrd2; replace HR1 := hid ((HR1.out.below hx (Nat.le_refl _)).more hx.size); replace HSK := hid (HSK.out.below hx); have HC2 := hid hc2; clear hx hrd2 hc2))
  have HBW := hid HSK.out.frame
  clear HAW HBB HLA HLT HSK
  go_loopw [6] (fun i wr => ∃ k : Nat, k ≤ na ∧ i = .int .i64 (k : Int) ∧ Below w5.heap.size w5 wr) (fun i _ => na - (intOf i).toNat)
  case atStart => exact ⟨0, by omega, rfl, Below.refl _ _⟩
  case round =>
    obtain ⟨i, hi, rfl, hbe⟩ := hrel
    obtain ⟨wo, rfl⟩ : ∃ wo : World, wo = wr := ⟨_, rfl⟩
    have HBE := hid hbe
    by_cases hlt : i < na
    · have hil : i < S.A.length := by rw [HNA.out]; exact hlt
      have HIL := hid hil
      obtain ⟨g1, o1, rfl⟩ := shape_of HR1.out Ac.len (by decide) (by omega)
      have hmem := List.getElem_mem hil
      have HID0 := hid (HGD.out.ia _ hmem)
      have HFL0 := hid (HGD.out.fl _ hmem)
      have HSB0 := hid (HGD.out.sb _ hmem)
      have HSC0 := hid (HGD.out.sc _ hmem)
      have hok := (HWF.out.oa _ hmem).1
      have HIDI0 : Hid (∀ j (hj : j < i), (S.A[j]'(Nat.lt_trans hj hil)).id = (S.A[i]'hil).id → False) := hid (fun j hj e => absurd (HGD.out.na j i (Nat.lt_trans hj hil) hil e) (Nat.ne_of_lt hj))
      have HRG := hid (fun W (hW : Below w5.heap.size w5 W) => range_of (HR1.out.below hW (Nat.le_refl _)) Ac.len hil)
      generalize (S.A[i]'hil) = X at *
      obtain ⟨id, fl, db, cr⟩ := X
      have HA0' : Hid (∀ W, Below w5.heap.size w5 W → W.cell? ⟨g1, o1 + i * 4, none⟩ = some (.int .u64 (id : Int))) := hid fun W hW => HRG.out W hW 0 _ rfl
      have HA1' : Hid (∀ W, Below w5.heap.size w5 W → W.cell? ⟨g1, o1 + i * 4 + 1, none⟩ = some (.int .i64 fl)) := hid fun W hW => HRG.out W hW 1 _ rfl
      have HA2' : Hid (∀ W, Below w5.heap.size w5 W → W.cell? ⟨g1, o1 + i * 4 + 2, none⟩ = some (.int .u64 (db : Int))) := hid fun W hW => HRG.out W hW 2 _ rfl
      have HA3' : Hid (∀ W, Below w5.heap.size w5 W → W.cell? ⟨g1, o1 + i * 4 + 3, none⟩ = some (.int .u64 (cr : Int))) := hid fun W hW => HRG.out W hW 3 _ rfl
      have HID : Hid (id ≠ 0) := hid HID0.out
      have HFL : Hid (fl = 1 → db ≤ cr) := hid HFL0.out
      have HSB : Hid (db = sumB id S.T) := hid HSB0.out
      have HSC : Hid (cr = sumC id S.T) := hid HSC0.out
      have HIDI : Hid (∀ j (hj : j < i), (S.A[j]'(Nat.lt_trans hj HIL.out)).id ≠ id) := hid fun j hj e => HIDI0.out j hj e
      have hub : U64 db := hok.2.2.1
      have huc : U64 cr := hok.2.2.2
      clear HRG HID0 HFL0 HSB0 HSC0 HIDI0 hmem hok hil hbe
      have hi0 : (i : Int) < (na : Int) := by omega
      go_wp2_with fail
      go_loopw [7, 8, 9] (fun d c k wr => ∃ j : Nat, j ≤ nt ∧ k = .int .i64 (j : Int) ∧ d = .int .u64 ((sumB id (S.T.take j) : Nat) : Int) ∧ c = .int .u64 ((sumC id (S.T.take j) : Nat) : Int) ∧ Below w5.heap.size w5 wr) (fun _ _ k _ => nt - (intOf k).toNat)
      case atStart => exact ⟨0, by omega, rfl, rfl, rfl, HBE.out⟩
      case round =>
        obtain ⟨j, hj, rfl, rfl, rfl, hbe2⟩ := hrel
        have HBE2 := hid hbe2
        by_cases hjt : j < nt
        · have hjl : j < S.T.length := by rw [HNT.out]; exact hjt
          obtain ⟨g2, o2, rfl⟩ := shape_of HR2.out Tr.len (by decide) (by omega)
          have k1 := cell_of (HR2.out.below hbe2 (Nat.le_refl _)) Tr.len hjl 1 _ rfl
          have k2 := cell_of (HR2.out.below hbe2 (Nat.le_refl _)) Tr.len hjl 2 _ rfl
          have k3 := cell_of (HR2.out.below hbe2 (Nat.le_refl _)) Tr.len hjl 3 _ rfl
          have k0 := HA0'.out wr hbe2
          have HB := hid (sumB_take id S.T j hjl)
          have HC := hid (sumC_take id S.T j hjl)
          have hB1 := sumB_le id S.T (j + 1)
          have hC1 := sumC_le id S.T (j + 1)
          rw [← HSB.out] at hB1
          rw [← HSC.out] at hC1
          rw [HB.out] at hB1
          rw [HC.out] at hC1
          generalize (S.T[j]'hjl) = X at *
          obtain ⟨xa, xb, xc, xd⟩ := X
          replace k1 : wr.cell? ⟨g2, o2 + j * 4 + 1, none⟩ = some (.int .u64 (xb : Int)) := k1
          replace k2 : wr.cell? ⟨g2, o2 + j * 4 + 2, none⟩ = some (.int .u64 (xc : Int)) := k2
          replace k3 : wr.cell? ⟨g2, o2 + j * 4 + 3, none⟩ = some (.int .u64 (xd : Int)) := k3
          replace HB : Hid (sumB id (S.T.take (j + 1)) = sumB id (S.T.take j) + if xb = id then xd else 0) := hid HB.out
          replace HC : Hid (sumC id (S.T.take (j + 1)) = sumC id (S.T.take j) + if xc = id then xd else 0) := hid HC.out
          replace hB1 : sumB id (S.T.take j) + (if xb = id then xd else 0) ≤ db := hB1
          replace hC1 : sumC id (S.T.take j) + (if xc = id then xd else 0) ≤ cr := hC1
          generalize sumB id (S.T.take j) = sb at *
          generalize sumC id (S.T.take j) = sc at *
          clear hbe2 hjl
          have hj0 : (j : Int) < (nt : Int) := by omega
          by_cases e1 : xb = id
          · rw [if_pos e1] at HB hB1
            have t1 := eq_nat e1
            have s1 := u64_wrap_small sb xd (by unfold U64 at *; omega)
            by_cases e2 : xc = id
            · rw [if_pos e2] at HC hC1
              have t2 := eq_nat e2
              have s2 := u64_wrap_small sc xd (by unfold U64 at *; omega)
              clear e1 e2 hB1 hC1
              go_wp2_with fail
              go_quiet (fail)
              go_wp2_with fail
              go_quiet (fail)
              go_wp2_with fail
              exact ⟨⟨j + 1, by omega, by go_num, by rw [HB.out]; rfl, by rw [HC.out]; rfl, below_drewN HBE2.out _⟩, by simp [intOf]; omega⟩
            · rw [if_neg e2] at HC hC1
              have t2 := ne_nat e2
              clear e1 e2 hB1 hC1
              go_wp2_with fail
              go_quiet (fail)
              go_wp2_with fail
              go_quiet (fail)
              go_wp2_with fail
              exact ⟨⟨j + 1, by omega, by go_num, by rw [HB.out]; rfl, by rw [HC.out]; rfl, below_drewN HBE2.out _⟩, by simp [intOf]; omega⟩
          · rw [if_neg e1] at HB hB1
            have t1 := ne_nat e1
            by_cases e2 : xc = id
            · rw [if_pos e2] at HC hC1
              have t2 := eq_nat e2
              have s2 := u64_wrap_small sc xd (by unfold U64 at *; omega)
              clear e1 e2 hB1 hC1
              go_wp2_with fail
              go_quiet (fail)
              go_wp2_with fail
              go_quiet (fail)
              go_wp2_with fail
              exact ⟨⟨j + 1, by omega, by go_num, by rw [HB.out]; rfl, by rw [HC.out]; rfl, below_drewN HBE2.out _⟩, by simp [intOf]; omega⟩
            · rw [if_neg e2] at HC hC1
              have t2 := ne_nat e2
              clear e1 e2 hB1 hC1
              go_wp2_with fail
              go_quiet (fail)
              go_wp2_with fail
              go_quiet (fail)
              go_wp2_with fail
              exact ⟨⟨j + 1, by omega, by go_num, by rw [HB.out]; rfl, by rw [HC.out]; rfl, below_drewN HBE2.out _⟩, by simp [intOf]; omega⟩
        · obtain rfl : j = nt := by omega
          have hB : sumB id (S.T.take j) = db := by rw [List.take_of_length_le (by rw [HNT.out]; exact Nat.le_refl _), HSB.out]
          have hC : sumC id (S.T.take j) = cr := by rw [List.take_of_length_le (by rw [HNT.out]; exact Nat.le_refl _), HSC.out]
          rw [hB, hC]
          have k0 := HA0'.out wr hbe2
          have k1 := HA1'.out wr hbe2
          have k2 := HA2'.out wr hbe2
          have k3 := HA3'.out wr hbe2
          have z0 := ne_nat HID.out
          have HQ : Hid ((fl == 1) = true → decide ((cr : Int) < (db : Int)) = false) := hid fun h => by
            have := HFL.out (beq_iff_eq.1 h)
            exact decide_eq_false (by omega)
          have HQ2 : Hid ((fl == 1) = true → decide (cr < db) = false) := hid fun h => by
            have := HFL.out (beq_iff_eq.1 h)
            exact decide_eq_false (by omega)
          clear hB hC hbe2
          cases hf : (fl == 1)
          · clear HQ HQ2
            go_wp2_with fail
            go_loopw [10] (fun i' wr => ∃ m : Nat, m ≤ i ∧ i' = .int .i64 (m : Int) ∧ Below w5.heap.size w5 wr) (fun i' _ => i - (intOf i').toNat)
            case atStart => exact ⟨0, by omega, rfl, HBE2.out⟩
            case round =>
              obtain ⟨m, hm, rfl, hbm⟩ := hrel
              have HBM := hid hbm
              by_cases hmi : m < i
              · have hml : m < S.A.length := by have := HIL.out; omega
                have y0 := cell_of (HR1.out.below hbm (Nat.le_refl _)) Ac.len hml 0 _ rfl
                have y1 := HA0'.out wr hbm
                have t1 := ne_nat (HIDI.out m hmi)
                generalize S.A[m].id = ma at *
                rw [Nat.add_zero] at y0
                clear hbm hml k0 k1 k2 k3
                have hm0 : (m : Int) < (i : Int) := by omega
                have hm1 : (m : Int) < (na : Int) := by omega
                go_wp2_with fail
                go_quiet (fail)
                go_wp2_with fail
                exact ⟨⟨m + 1, by omega, by go_num, below_drewN HBM.out _⟩, by simp [intOf]; omega⟩
              · obtain rfl : m = i := by omega
                clear hbm k0 k1 k2 k3
                go_wp2_with fail
                exact ⟨⟨m + 1, by omega, by go_num, HBM.out⟩, by simp [intOf]; omega⟩
          · have q1 := HQ.out hf
            have q2 := HQ2.out hf
            clear HQ HQ2
            go_wp2_with fail
            go_loopw [10] (fun i' wr => ∃ m : Nat, m ≤ i ∧ i' = .int .i64 (m : Int) ∧ Below w5.heap.size w5 wr) (fun i' _ => i - (intOf i').toNat)
            case atStart => exact ⟨0, by omega, rfl, HBE2.out⟩
            case round =>
              obtain ⟨m, hm, rfl, hbm⟩ := hrel
              have HBM := hid hbm
              by_cases hmi : m < i
              · have hml : m < S.A.length := by have := HIL.out; omega
                have y0 := cell_of (HR1.out.below hbm (Nat.le_refl _)) Ac.len hml 0 _ rfl
                have y1 := HA0'.out wr hbm
                have t1 := ne_nat (HIDI.out m hmi)
                generalize S.A[m].id = ma at *
                rw [Nat.add_zero] at y0
                clear hbm hml k0 k1 k2 k3
                have hm0 : (m : Int) < (i : Int) := by omega
                have hm1 : (m : Int) < (na : Int) := by omega
                go_wp2_with fail
                go_quiet (fail)
                go_wp2_with fail
                exact ⟨⟨m + 1, by omega, by go_num, below_drewN HBM.out _⟩, by simp [intOf]; omega⟩
              · obtain rfl : m = i := by omega
                clear hbm k0 k1 k2 k3
                go_wp2_with fail
                exact ⟨⟨m + 1, by omega, by go_num, HBM.out⟩, by simp [intOf]; omega⟩
    · obtain rfl : i = na := by omega
      clear hbe
      go_wp2_with fail
      go_loopw [11] (fun i wr => ∃ k : Nat, k ≤ nt ∧ i = .int .i64 (k : Int) ∧ Below w5.heap.size w5 wr) (fun i _ => nt - (intOf i).toNat)
      case atStart => exact ⟨0, by omega, rfl, HBE.out⟩
      case round =>
        obtain ⟨k, hk, rfl, hbe⟩ := hrel
        obtain ⟨wp, rfl⟩ : ∃ wp : World, wp = wr := ⟨_, rfl⟩
        have HBP := hid hbe
        by_cases hkt : k < nt
        · have hkl : k < S.T.length := by rw [HNT.out]; exact hkt
          have HKL := hid hkl
          obtain ⟨g2, o2, rfl⟩ := shape_of HR2.out Tr.len (by decide) (by omega)
          have HT0 := hid (fun W (hW : Below w5.heap.size w5 W) => cell_of (HR2.out.below hW (Nat.le_refl _)) Tr.len hkl 0 _ rfl)
          clear hbe
          have hk0 : (k : Int) < (nt : Int) := by omega
          go_wp2_with fail
          go_loopw [12] (fun i wr => ∃ m : Nat, m ≤ k ∧ i = .int .i64 (m : Int) ∧ Below w5.heap.size w5 wr) (fun i _ => k - (intOf i).toNat)
          case atStart => exact ⟨0, by omega, rfl, HBP.out⟩
          case round =>
            obtain ⟨m, hm, rfl, hbm⟩ := hrel
            have HBM := hid hbm
            by_cases hmk : m < k
            · have hml : m < S.T.length := by have := HKL.out; omega
              have k0 := cell_of (HR2.out.below hbm (Nat.le_refl _)) Tr.len hml 0 _ rfl
              have k1 := HT0.out wr hbm
              have hne : S.T[m].a ≠ (S.T[k]'HKL.out).a := fun e => by
                have := HGD.out.nt m k hml HKL.out e
                omega
              have t1 := ne_nat hne
              generalize S.T[m].a = ma at *
              generalize (S.T[k]'HKL.out).a = ka at *
              rw [Nat.add_zero] at k0 k1
              clear hbm hml hne HT0
              have hm0 : (m : Int) < (k : Int) := by omega
              have hm1 : (m : Int) < (nt : Int) := by omega
              have hk1 : (k : Int) < (nt : Int) := by omega
              go_wp2_with fail
              go_quiet (fail)
              go_wp2_with fail
              exact ⟨⟨m + 1, by omega, by go_num, below_drewN HBM.out _⟩, by simp [intOf]; omega⟩
            · obtain rfl : m = k := by omega
              clear hbm
              go_wp2_with fail
              exact ⟨⟨m + 1, by omega, by go_num, HBM.out⟩, by simp [intOf]; omega⟩
        · obtain rfl : k = nt := by omega
          clear hbe
          go_wp2_with fail
          go_ret
          exact ⟨rfl, HBW.out.trans (HBP.out.mono HBW.out.size)⟩
theorem sums_any (A : Option Addr) (XS : List Ab) (n c : Nat) (w : World) (hr : Rd w w.heap.size A (rows Ab.cells XS)) (hn : n = XS.length) (hbig : n ≤ 9223372036854775807) :
    Calls Try.prog 4 #[.slice A n c] w fun e w' => e = .returned (.bool true) ∧ Below w.heap.size w w' :=
  sums_walk A n c (playN XS) w (playN_wf XS) (playN_good XS) (hid (fun W (hW : Below w.heap.size w W) => played_any A XS n c W ((hr.below hW (Nat.le_refl _)).more hW.size) hn hbig))
end Go.Proofs.Ytbofabmgfkploaa
