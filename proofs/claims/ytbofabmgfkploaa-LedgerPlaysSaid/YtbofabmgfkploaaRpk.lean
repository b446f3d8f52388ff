/-
  The walk of the document's Pack.
-/
import Derived.Test.YtbofabmgfkploaaRfd
namespace Go.Proofs.Ytbofabmgfkploaa
open Go.RowKit
set_option maxRecDepth 10000

theorem flat_take_le {α : Type} (f : α → List UInt8) (hf : ∀ x, (f x).length ≤ 32) (l : List α) (k : Nat) : ((l.take k).flatMap f).length ≤ k * 32 := by
  have h1 : ∀ m : List α, (m.flatMap f).length ≤ m.length * 32 := by
    intro m
    induction m with
    | nil => simp
    | cons x r ih =>
      have := hf x
      rw [List.flatMap_cons, List.length_append, List.length_cons, Nat.add_mul]
      omega
  have h2 := h1 (l.take k)
  have h3 : (l.take k).length * 32 ≤ k * 32 := Nat.mul_le_mul_right _ (List.length_take_le _ _)
  omega
theorem flat_take_step {α : Type} (f : α → List UInt8) (l : List α) (k : Nat) (h : k < l.length) : (l.take (k + 1)).flatMap f = (l.take k).flatMap f ++ f l[k] := by
  rw [List.take_succ_eq_append_getElem h, List.flatMap_append]
  simp
set_option maxHeartbeats 2000000 in
theorem rpack_any (p : Nat) (va vt : Value) (S : Lg) (w : World) (h : HasG w 30 p va vt S) : Calls Try.prog 19 #[.pointer (some ⟨p, 0, none⟩)] w (SE w S.pack) := by
  have hn8 := h.wf.la
  have hm16 := h.wf.lt
  obtain ⟨A, c, ev, hnc, hrdA⟩ := h.va_shape
  obtain ⟨A2, c2, et, hmc, hrdT⟩ := h.vt_shape
  have HC0 := hid (fun W (hW : Below w.heap.size w W) => (h.below hW).c0)
  have HC1 := hid (fun W (hW : Below w.heap.size w W) => (h.below hW).c1)
  rw [ev] at HC0
  rw [et] at HC1
  have hc0 := HC0.out w (Below.refl _ _)
  have HOA := hid (fun k (hk : k < S.A.length) => (h.wf.oa _ (List.getElem_mem hk)).1)
  have HOT := hid (fun k (hk : k < S.T.length) => h.wf.ot _ (List.getElem_mem hk))
  have HBY := hid (fun (n : Nat) W (h : (n : Int) ≤ 255) => rbyte_any n W h)
  have HRA := hid hrdA
  have HRT := hid hrdT
  have HPK : Hid (S.pack = (UInt8.ofNat S.A.length :: S.A.flatMap acB) ++ (UInt8.ofNat S.T.length :: S.T.flatMap trL)) := hid rfl
  obtain ⟨n, hn⟩ : ∃ n, S.A.length = n := ⟨_, rfl⟩
  obtain ⟨m, hm⟩ : ∃ m, S.T.length = m := ⟨_, rfl⟩
  have HNA := hid hn
  have HNT := hid hm
  rw [hn] at hnc hn8 HC0 hc0 HPK
  rw [hm] at hmc hm16 HC1 HPK
  have HBN := hid (fun W => HBY.out n W (by omega))
  have HBM := hid (fun W => HBY.out m W (by omega))
  have HLA := hid (fun k => flat_take_le acB (fun x => Nat.le_trans (acB_le x) (by omega)) S.A k)
  have HLT := hid (fun k => flat_take_le trL trL_le S.T k)
  have HSA := hid (fun k (hk : k < S.A.length) => flat_take_step acB S.A k hk)
  have HST := hid (fun k (hk : k < S.T.length) => flat_take_step trL S.T k hk)
  have HEA : Hid ((S.A.take n).flatMap acB = S.A.flatMap acB) := hid (by rw [List.take_of_length_le (by omega)])
  have HET : Hid ((S.T.take m).flatMap trL = S.T.flatMap trL) := hid (by rw [List.take_of_length_le (by omega)])
  have HZ := hid acSize
  clear h ev et hrdA hrdT hn hm HBY
  go_enter Try.func19, Try.ntmps19
  go_wp2_with (go_at_call 36; refine (HBN.out _).mono ?_; rintro e w1 ⟨rfl, hb1⟩; have HB1 := hid hb1; clear hb1)
  clear hc0
  go_loopw [3, 4] (fun sv i wr => ∃ k : Nat, k ≤ n ∧ i = .int .i64 (k : Int) ∧ sv = .string ⟨(UInt8.ofNat n :: (S.A.take k).flatMap acB).toArray⟩ ∧ Below w.heap.size w wr) (fun _ i _ => n - (intOf i).toNat)
  case atStart => exact ⟨0, by omega, rfl, rfl, HB1.out⟩
  case round =>
    obtain ⟨k, hk, rfl, rfl, hbe⟩ := hrel
    have HBE := hid hbe
    have hc0 := HC0.out wr hbe
    have hc1 := HC1.out wr hbe
    have hla := HLA.out k
    by_cases hlt : k < n
    · have hkl : k < S.A.length := by rw [HNA.out]; exact hlt
      obtain ⟨g, o, rfl⟩ := shape_of HRA.out Ac.len (by decide) (by omega)
      have HRG := hid (range_of (HRA.out.below hbe (Nat.le_refl _)) Ac.len hkl)
      have HP := hid (fun W => rpw_any (S.A[k]'hkl) (HOA.out k hkl) W)
      have HS := hid (HSA.out k hkl)
      have hl := acB_le (S.A[k]'hkl)
      have HC4 : Hid ((Ac.cells (S.A[k]'hkl)).length = 4) := hid (Ac.len _)
      unfold acB at hl
      have HS2 : Hid ((S.A.take (k + 1)).flatMap acB = (S.A.take k).flatMap acB ++ (wholeB (S.A[k]'hkl)).1) := hid HS.out
      generalize wholeB (S.A[k]'hkl) = r at *
      obtain ⟨bs, er⟩ := r
      generalize Ac.cells (S.A[k]'hkl) = X at *
      have HS3 : Hid ((S.A.take (k + 1)).flatMap acB = (S.A.take k).flatMap acB ++ bs) := hid HS2.out
      obtain ⟨acc, hac⟩ : ∃ acc, UInt8.ofNat n :: (S.A.take k).flatMap acB = acc := ⟨_, rfl⟩
      have hal : acc.length ≤ 1 + k * 32 := by rw [← hac, List.length_cons]; omega
      have HAC : Hid (UInt8.ofNat n :: (S.A.take (k + 1)).flatMap acB = acc ++ bs) := hid (by rw [HS3.out, ← hac]; rfl)
      rw [hac]
      have hq : ¬ (9223372036854775807 < acc.length + bs.length) := by simp only at hl; omega
      have hki : (k : Int) < (n : Int) := by omega
      clear hac hal hl hla hbe HS HS2 HS3 hc1 hkl
      go_wp2_with (first
        | (refine wpList_load_mid rfl 45 (.tmp 31) rfl g (o + k * 4) rfl X _ HRG.out Try.underlying45 rfl (by rw [HC4.out]; exact HZ.out) ?_)
        | (go_at_call 49; refine (HP.out _).mono ?_; rintro e w2 ⟨rfl, hb2⟩))
      exact ⟨⟨k + 1, by omega, by go_num, by rw [HAC.out, ← cat_mk], HBE.out.trans (hb2.mono HBE.out.size)⟩, by simp [intOf]; omega⟩
    · obtain rfl : k = n := by omega
      have HX1 : Hid (UInt8.ofNat k :: (S.A.take k).flatMap acB = UInt8.ofNat k :: S.A.flatMap acB) := hid (by rw [HEA.out])
      have hxl : (UInt8.ofNat k :: (S.A.take k).flatMap acB).length ≤ 1 + k * 32 := by rw [List.length_cons]; omega
      rw [HX1.out] at hxl ⊢
      generalize UInt8.ofNat k :: S.A.flatMap acB = x1 at *
      have hq : ¬ (9223372036854775807 < x1.length + 1) := by omega
      clear hbe hla HX1 HSA HEA
      go_wp2_with (go_at_call 36; refine (HBM.out _).mono ?_; rintro e w3 ⟨rfl, hb3⟩; have HB3 := hid (HBE.out.trans (hb3.mono HBE.out.size)); clear hb3)
      clear hc0 hc1 hq
      go_loopw [3, 7] (fun sv i wr => ∃ j : Nat, j ≤ m ∧ i = .int .i64 (j : Int) ∧ sv = .string ⟨(x1 ++ (UInt8.ofNat m :: (S.T.take j).flatMap trL)).toArray⟩ ∧ Below w.heap.size w wr) (fun _ i _ => m - (intOf i).toNat)
      case atStart => exact ⟨0, by omega, rfl, by rw [← cat_mk]; rfl, HB3.out⟩
      case round =>
        obtain ⟨j, hj, rfl, rfl, hbe⟩ := hrel
        have HBJ := hid hbe
        have hc1 := HC1.out wr hbe
        have hlt2 := HLT.out j
        by_cases hjm : j < m
        · have hjl : j < S.T.length := by rw [HNT.out]; exact hjm
          obtain ⟨g2, o2, rfl⟩ := shape_of HRT.out Tr.len (by decide) (by omega)
          have hok := HOT.out j hjl
          have hone := rt_one (HRT.out.below hbe (Nat.le_refl _)) j hjl
          have HP := hid (rputt_list (some ⟨g2, o2 + j * 4, none⟩) [S.T[j]'hjl] 1 (c2 - j) w.heap.size wr hone rfl (by omega) hbe.size (by intro y hy; rw [List.mem_singleton.1 hy]; exact hok))
          rw [(one_t _ hok).1] at HP
          have HS := hid (HST.out j hjl)
          have hl := trL_le (S.T[j]'hjl)
          generalize trL (S.T[j]'hjl) = bs at *
          obtain ⟨acc, hac⟩ : ∃ acc, x1 ++ (UInt8.ofNat m :: (S.T.take j).flatMap trL) = acc := ⟨_, rfl⟩
          have hal : acc.length ≤ x1.length + (1 + j * 32) := by rw [← hac, List.length_append, List.length_cons]; omega
          have HAC : Hid (x1 ++ (UInt8.ofNat m :: (S.T.take (j + 1)).flatMap trL) = acc ++ bs) := hid (by rw [HS.out, ← hac]; simp)
          rw [hac]
          have hq : ¬ (9223372036854775807 < acc.length + bs.length) := by omega
          have hji : (j : Int) < (m : Int) := by omega
          have hj1 : (j : Int) + 1 ≤ (c2 : Int) := by omega
          have hj2 : ¬ c2 = j := by omega
          clear hac hal hl hlt2 hbe HS hok hone hjl
          go_wp2_with (go_at_call 50; refine HP.out.mono ?_; rintro e w4 ⟨rfl, hb4⟩)
          exact ⟨⟨j + 1, by omega, by go_num, by rw [HAC.out, ← cat_mk], HBJ.out.trans (hb4.mono HBJ.out.size)⟩, by simp [intOf]; omega⟩
        · obtain rfl : j = m := by omega
          clear hbe hlt2
          go_wp2_with fail
          go_ret
          exact ⟨by rw [HPK.out, HET.out]; rfl, HBJ.out⟩
theorem Tk.rpack {w0 w : World} {X p q : Nat} {S T : Lg} (h : Tk w0 X p S 30 q T w) : Calls Try.prog 19 #[.pointer (some ⟨q, 0, none⟩)] w (SE w T.pack) := by
  obtain ⟨fq, ⟨va, vt, rfl, h1⟩, _⟩ := h.snd
  exact rpack_any q va vt T w h1
end Go.Proofs.Ytbofabmgfkploaa
