/-
  The walk of settle, as Flush calls it.
-/
import Derived.Test.YtdkgpjmehdpliaaNz
import Derived.Deep.RegionWith
namespace Go.Proofs.Ytdkgpjmehdpliaa
open Go.RowKit

set_option maxRecDepth 10000 in
set_option maxHeartbeats 1000000 in
theorem settF_calls (p gs : Nat) (vw : Value) (S : Sp) (w : World) (h : HasD w p gs vw S) (hn : S.way.length ≤ 4611686018427387904) :
    Calls Try.prog 40 #[dptr p, .func (.func 44) #[] #[]] w fun e w' => e = .returned (.tuple #[]) ∧ HasD w' p gs (.slice none 0 0) { S with secs := sett (fun _ => 384) S.way S.secs, way := [] } ∧ Fr w w' [p, gs] := by
  have c1 := h.c1
  obtain ⟨A, c, hv⟩ := vw_shape h.wrs
  rw [hv] at c1
  have HV := hid hv
  clear hv
  unfold dptr
  go_enter Try.func40, Try.ntmps40
  go_wp2_with fail
  go_loopw [12] (fun i wr => ∃ k : Nat, k ≤ S.way.length ∧ i = .int .i64 k ∧ Rnd wr gs S (fun _ => 384) k ∧ Fr w wr [gs]) (fun i _ => S.way.length - (intOf i).toNat)
  case atStart =>
    refine ⟨0, by omega, rfl, ⟨?_⟩, Fr.refl _ _⟩
    rw [List.take_zero, sett_nil, nz_zero]
    exact h.secs
  case round =>
    obtain ⟨k, hk, rfl, hrd, hfr⟩ := hrel
    by_cases hlt : k < S.way.length
    · obtain ⟨g, c', hv, hg, hcap⟩ := h.wrShape (by omega)
      have hwr := h.wf.way _ (List.getElem_mem hlt)
      have ho := hfr.own h.wrs (by intro b hb; simp; rintro rfl; exact h.ne3 hb)
      rw [hv] at ho
      have cp1 := (hfr.row h.disk (by simpa using h.ne1)).at_ 1 _ rfl
      have cp0 := (hfr.row h.disk (by simpa using h.ne1)).at_ 0 _ rfl
      rw [hv] at cp1
      have cpl : wr.cell? ⟨g, k * 385, none⟩ = some (.int .i64 (S.way[k].place : Int)) := by
        have := ho.cellAt (k * 385 + 0) (by omega)
        rw [wr_cell S.way (fun x hx => (h.wf.way x hx).2) k 0 hlt (by omega)] at this
        simpa [wrCells] using this
      have hi : S.way[k].place < (sett (fun _ => 384) (S.way.take k) S.secs).length := by rw [sett_length]; exact hwr.1
      have hl := sett_wf (fun _ => 384) (fun _ => Nat.le_refl _) (S.way.take k) S.secs h.wf.len (fun x hx => (h.wf.way x (List.mem_of_mem_take hx)).2)
      have HI := hid hi
      have HL := hid hl
      have HB := hid hwr.2
      have HRD : Hid (∀ n, Row (wr.drewN n) gs 69 (secRows (sett (fun _ => 384) (S.way.take k) S.secs) (nz S.way k)).flatten) := fun n => hrd.row
      have HA : Hid (∀ n, Rd (wr.drewN n) w.heap.size (some ⟨g, k * 385 + 1, none⟩) (bvs (S.way[k].bytes.take 384))) := by
        intro n
        rw [List.take_of_length_le (by have := hwr.2; omega)]
        exact hfr.rd' (h.rdWr k hlt g c' hv) (by simp; rintro rfl; exact h.ne3 (by rw [hv]; rfl))
      have HE := hid (fun w1 hr1 => rnd_end (w1 := w1) (gs := gs) (F := fun _ => 384) (k := k) h.wf (fun _ => Nat.le_refl _) hlt hi hr1)
      have HF := hid hfr
      clear hl hrd hfr ho
      have hb1 : (k : Int) < (S.way.length : Int) := by omega
      have hb2 : ((S.way[k].place : Nat) : Int) < (S.secs.length : Int) := by have := hwr.1; omega
      go_wp2_with fail
      go_quiet (fail)
      go_wp2_with fail
      go_region_with (first
        | (go_at_call 44; refine (flush1_any k _).mono ?_; rintro e w1 ⟨rfl, rfl⟩)
        | (go_at_call 46; refine (take_any gs S.way[k].place 384 _ _ S.way[k].bytes (some ⟨g, k * 385 + 1, none⟩) w.heap.size _ HL.out HI.out HB.out (Nat.le_refl _) (HRD.out _) (HA.out _)).mono ?_; rintro e w1 ⟨rfl, hr1, hf1⟩; obtain ⟨⟨u, hu⟩, HE2⟩ := HE.out w1 hr1; have hfz := hr1.frozen (S.way[k].place * 386 + 385); have HX := hid HE2; have HR1 := hid hr1; clear HE2 hr1))
      all_goals go_wp2_with fail
      go_roundw
      case rel => exact ⟨k + 1, by omega, by go_num, HX.out, (HF.out.trans hf1.undrew (by simp)).setCell (p := ⟨gs, S.way[k].place * 386 + 385, none⟩) (by simp) _⟩
      case measure => simp [intOf]; omega
    · obtain rfl : k = S.way.length := by omega
      have cp1 := (hfr.row h.disk (by simpa using h.ne1)).at_ 1 _ rfl
      have fp1 := (hfr.row h.disk (by simpa using h.ne1)).frozen 1
      have HH := hid (HasD.settled (by simp) h hfr hrd)
      clear hrd hfr
      go_wp2_with fail
      go_end0
      exact ⟨rfl, HH.out⟩
end Go.Proofs.Ytdkgpjmehdpliaa
