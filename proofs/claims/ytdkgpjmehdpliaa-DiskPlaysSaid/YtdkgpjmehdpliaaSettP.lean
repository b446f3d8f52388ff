/-
  The walk of settle, as Start calls it.
-/
import Derived.Test.YtdkgpjmehdpliaaNz
import Derived.Deep.RegionWith
namespace Go.Proofs.Ytdkgpjmehdpliaa
open Go.RowKit

set_option maxRecDepth 10000 in
set_option maxHeartbeats 1000000 in
theorem settP_calls (p gs : Nat) (vw : Value) (S : Sp) (w : World) (h : HasD w p gs vw S) (hn : S.way.length ≤ 4611686018427387904)
    (picks : List Int) (pb : Nat) (Ap : Option Addr) (cp B : Nat) (hbox : Row w pb 32 [.slice Ap picks.length cp]) (hrp : Rd w B Ap (ints picks)) (hp : ∀ x ∈ picks, x ≤ 9223372036854775807) (hpn : picks.length ≤ 9223372036854775807)
    (hpb : pb ≠ p ∧ pb ≠ gs) (hB : picks ≠ [] → ∀ g o, Ap = some ⟨g, o, none⟩ → g ≠ gs) :
    Calls Try.prog 40 #[dptr p, .func (.func 41) #[] #[.pointer (some ⟨pb, 0, none⟩)]] w fun e w' => e = .returned (.tuple #[]) ∧ HasD w' p gs (.slice none 0 0) { S with secs := sett (pickOf picks) S.way S.secs, way := [] } ∧ Fr w w' [p, gs] := by
  have c1 := h.c1
  obtain ⟨A, c, hv⟩ := vw_shape h.wrs
  rw [hv] at c1
  have HV := hid hv
  clear hv
  unfold dptr
  go_enter Try.func40, Try.ntmps40
  go_wp2_with fail
  go_loopw [12] (fun i wr => ∃ k : Nat, k ≤ S.way.length ∧ i = .int .i64 k ∧ Rnd wr gs S (pickOf picks) k ∧ Fr w wr [gs]) (fun i _ => S.way.length - (intOf i).toNat)
  case atStart =>
    refine ⟨0, by omega, rfl, ⟨?_⟩, Fr.refl _ _⟩
    rw [List.take_zero, sett_nil, nz_zero]
    exact h.secs
  case round =>
    obtain ⟨k, hk, rfl, hrd, hfr⟩ := hrel
    by_cases hlt : k < S.way.length
    · obtain ⟨g, c', hv, hg, hcap⟩ := h.wrShape (by omega)
      have hwr := h.wf.way _ (List.getElem_mem hlt)
      have ho := hfr.own h.wrs (by intro b hb; simp; rintro rfl; exact h.ne3 hb)
      rw [hv] at ho
      have cp1 := (hfr.row h.disk (by simpa using h.ne1)).at_ 1 _ rfl
      have cp0 := (hfr.row h.disk (by simpa using h.ne1)).at_ 0 _ rfl
      rw [hv] at cp1
      have cpl : wr.cell? ⟨g, k * 385, none⟩ = some (.int .i64 (S.way[k].place : Int)) := by
        have := ho.cellAt (k * 385 + 0) (by omega)
        rw [wr_cell S.way (fun x hx => (h.wf.way x hx).2) k 0 hlt (by omega)] at this
        simpa [wrCells] using this
      have hi : S.way[k].place < (sett (pickOf picks) (S.way.take k) S.secs).length := by rw [sett_length]; exact hwr.1
      have hl := sett_wf (pickOf picks) (pickOf_le picks) (S.way.take k) S.secs h.wf.len (fun x hx => (h.wf.way x (List.mem_of_mem_take hx)).2)
      have HI := hid hi
      have HL := hid hl
      have HB := hid hwr.2
      have HRD : Hid (∀ n, Row (wr.drewN n) gs 69 (secRows (sett (pickOf picks) (S.way.take k) S.secs) (nz S.way k)).flatten) := fun n => hrd.row
      have HA : Hid (∀ n, Rd (wr.drewN n) w.heap.size (some ⟨g, k * 385 + 1, none⟩) (bvs (S.way[k].bytes.take (pickOf picks k)))) := by
        intro n
        have h1 := (h.rdWr k hlt g c' hv).take (pickOf picks k)
        have e1 : (bvs S.way[k].bytes).take (pickOf picks k) = bvs (S.way[k].bytes.take (pickOf picks k)) := by simp [bvs]
        rw [e1] at h1
        exact hfr.rd' h1 (by simp; rintro rfl; exact h.ne3 (by rw [hv]; rfl))
      have HBX : Hid (∀ n, (wr.drewN n).cell? ⟨pb, 0, none⟩ = some (.slice Ap picks.length cp)) := fun n => (hfr.row hbox (by simpa using hpb.2)).at_ 0 _ rfl
      have HPK : Hid (∀ n, Rd (wr.drewN n) B Ap (ints picks)) := fun n => by
        intro hne
        obtain ⟨g0, o0, e0, hg0, hc0⟩ := hrp hne
        exact ⟨g0, o0, e0, hg0, fun j u hu => (World.cell?_of_block (w := w) (a := ⟨g0, o0 + j, none⟩) (hfr.block g0 (World.block_lt_of_cell? w _ (hc0 j u hu)) (by simpa using hB (fun e => hne (by rw [e]; rfl)) g0 o0 e0))).trans (hc0 j u hu)⟩
      have hle := pickOf_le picks k
      have hsl := slice_head ⟨g, k * 385 + 1, none⟩ (pickOf picks k) hle
      have HE := hid (fun w1 hr1 => rnd_end (w1 := w1) (gs := gs) (F := pickOf picks) (k := k) h.wf (pickOf_le picks) hlt hi hr1)
      have HF := hid hfr
      clear hl hrd hfr ho
      have hb1 : (k : Int) < (S.way.length : Int) := by omega
      have hb2 : ((S.way[k].place : Nat) : Int) < (S.secs.length : Int) := by have := hwr.1; omega
      go_wp2_with fail
      go_quiet (fail)
      go_wp2_with fail
      go_region_with (first
        | (go_at_call 41; refine (start1_any k pb picks Ap cp B _ (HBX.out _) (HPK.out _) hp hpn (by omega)).mono ?_; rintro e w1 ⟨rfl, m, rfl⟩)
        | (go_at_call 46; refine (take_any gs S.way[k].place (pickOf picks k) _ _ S.way[k].bytes (some ⟨g, k * 385 + 1, none⟩) w.heap.size _ HL.out HI.out HB.out (pickOf_le picks k) (HRD.out _) (HA.out _)).mono ?_; rintro e w1 ⟨rfl, hr1, hf1⟩; obtain ⟨⟨u, hu⟩, HE2⟩ := HE.out w1 hr1; have hfz := hr1.frozen (S.way[k].place * 386 + 385); have HX := hid HE2; have HR1 := hid hr1; clear HE2 hr1))
      all_goals go_wp2_with fail
      go_roundw
      case rel => exact ⟨k + 1, by omega, by go_num, HX.out, (HF.out.trans hf1.undrew (by simp)).setCell (p := ⟨gs, S.way[k].place * 386 + 385, none⟩) (by simp) _⟩
      case measure => simp [intOf]; omega
    · obtain rfl : k = S.way.length := by omega
      have cp1 := (hfr.row h.disk (by simpa using h.ne1)).at_ 1 _ rfl
      have fp1 := (hfr.row h.disk (by simpa using h.ne1)).frozen 1
      have HH := hid (HasD.settled (pickOf_le picks) h hfr hrd)
      clear hrd hfr
      go_wp2_with fail
      go_end0
      exact ⟨rfl, HH.out⟩
end Go.Proofs.Ytdkgpjmehdpliaa
