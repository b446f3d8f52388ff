/-
  The walk of DiskLasts.
-/
import Derived.Test.YtdkgpjmehdpliaaPlay
import Derived.Deep.LoopGhost
namespace Go.Proofs.Ytdkgpjmehdpliaa
open Go.RowKit

/-- the k-th call's cells in a list of calls -/
theorem act_cells {w : World} {D : Nat} {A : Option Addr} {XS : List Act0} (h : Rd w D A (XS.map Act0.cells).flatten) (k : Nat) (hk : k < XS.length) :
    ∃ g o, A = some ⟨g, o, none⟩ ∧ g < D ∧ ∀ m v, XS[k].cells[m]? = some v → w.cell? ⟨g, o + k * 7 + m, none⟩ = some v := by
  have hR : ∀ r ∈ XS.map Act0.cells, r.length = 7 := by
    intro r hr
    obtain ⟨X, _, rfl⟩ := List.mem_map.1 hr
    rfl
  have hne : (XS.map Act0.cells).flatten ≠ [] := by
    intro e
    have := flat_length 7 _ hR
    rw [e] at this
    simp only [List.length_nil, List.length_map] at this
    omega
  obtain ⟨g, o, rfl, hg, hc⟩ := h hne
  refine ⟨g, o, rfl, hg, fun m v hv => ?_⟩
  have hm : m < 7 := (List.getElem?_eq_some_iff.1 hv).1
  have := hc (k * 7 + m) v (by
    rw [flat_get 7 _ _ _ hR hm, List.getElem?_eq_getElem (by simpa using hk)]
    simpa using hv)
  rw [← Nat.add_assoc] at this
  exact this

theorem Dk.rd {B : Nat} {w0 w : World} {p gs : Nat} {S : Sp} (h : Dk B w0 w p gs S) {D : Nat} {A : Option Addr} {xs : List Value} (hr : Rd w0 D A xs) (hD : D ≤ B) : Rd w D A xs := hr.below h.below hD
theorem Dk.okA {B : Nat} {w0 w : World} {p gs : Nat} {S : Sp} (h : Dk B w0 w p gs S) {D : Nat} {X : Act0} (hx : X.OK w0 D) (hD : D ≤ B) : X.OK w D := ⟨h.rd hx.rd hD, hx.p, hx.pn, hx.n⟩
theorem Dk.gs {B : Nat} {w0 w : World} {p gs : Nat} {S : Sp} (h : Dk B w0 w p gs S) : B ≤ gs := by
  obtain ⟨vw, _, h2, _⟩ := h
  exact h2 gs (by simp [fpD])
theorem mk0_read (n : Nat) : (Sp.mk0 n).secs.length = n := by simp [Sp.mk0]

set_option maxRecDepth 10000 in
set_option maxHeartbeats 1000000 in
theorem lasts_bad (sectors i : Int) (vl vp : Value) (w : World) (h : ¬ (1 ≤ sectors ∧ sectors ≤ 64)) :
    Calls Try.prog 4 #[.int .i64 sectors, vl, .int .i64 i, vp] w (YF w) := by
  go_enter Try.func4, Try.ntmps4
  go_wp2_with (first
    | (go_at_call 9; refine (awake_calls _).mono ?_; rintro e wa ⟨rfl, hf0⟩)
    | (go_at_call 10; refine (new_no sectors _ h).mono ?_; rintro e w1 ⟨rfl, rfl⟩))
  go_ret
  exact ⟨rfl, hf0⟩

set_option maxRecDepth 10000 in
set_option maxHeartbeats 2000000 in
theorem lasts_ok (n : Nat) (i : Int) (A Ap : Option Addr) (l c lp cp : Nat) (XS : List Act0) (picks : List Int) (w : World) (h1 : 1 ≤ n) (h2 : n ≤ 64) (hl : l = XS.length) (hl2 : l ≤ 9223372036854775807) (hok : ∀ X ∈ XS, X.OK w w.heap.size)
    (hr : Rd w w.heap.size A (XS.map Act0.cells).flatten) (hlp : lp = picks.length) (hrp : Rd w w.heap.size Ap (ints picks)) (hp : ∀ x ∈ picks, x ≤ 9223372036854775807) (hpn : lp ≤ 9223372036854775807) :
    Calls Try.prog 4 #[.int .i64 (n : Int), .slice A l c, .int .i64 i, .slice Ap lp cp] w (YF w) := by
  have HL := hid hl
  have HOK := hid hok
  have HR := hid hr
  have HLP := hid hlp
  have HRP := hid hrp
  have HP := hid hp
  have HPN := hid hpn
  clear hl hok hr hlp hrp hp hpn
  go_enter Try.func4, Try.ntmps4
  go_wp2_with (first
    | (go_at_call 9; refine (awake_calls _).mono ?_; rintro e wa ⟨rfl, hf0⟩)
    | (go_at_call 10; refine (dk_new n _ h1 h2).mono ?_; rintro e w1 ⟨p, gs, rfl, hd⟩; unfold dptr))
  have HF := hid hf0
  have hRa : Rd wa w.heap.size A (XS.map Act0.cells).flatten := hf0.rd HR.out (Nat.le_refl _) (by simp)
  have hPa : Rd wa w.heap.size Ap (ints picks) := hf0.rd HRP.out (Nat.le_refl _) (by simp)
  have hOa : ∀ X ∈ XS, X.OK wa w.heap.size := fun X hX => ⟨hf0.rd (HOK.out X hX).rd (Nat.le_refl _) (by simp), (HOK.out X hX).p, (HOK.out X hX).pn, (HOK.out X hX).n⟩
  have HRA := hid hRa
  have HPA := hid hPa
  have HOA := hid hOa
  have HWS : Hid (w.heap.size ≤ wa.heap.size) := hid hf0.size
  clear hRa hPa hOa hf0
  go_loopw [11, 12] (fun b k wr => ∃ (bb : Bool) (kk : Nat) (S : Sp), b = .bool bb ∧ k = .int .i64 (kk : Nat) ∧ kk ≤ XS.length ∧ kk ≤ 60 ∧ Dk wa.heap.size wa wr p gs S ∧ S.count ≤ kk ∧ (bb = false → NoW S i)) (fun _ k _ => 60 - (intOf k).toNat)
  case atStart => exact ⟨false, 0, Sp.mk0 n, rfl, rfl, by omega, by omega, hd, Nat.le_refl _, fun _ x hx => by cases hx⟩
  case round =>
    obtain ⟨bb, k, S, rfl, rfl, hk1, hk2, hdk, hcnt, hnw⟩ := hrel
    by_cases hlt : k < XS.length ∧ k < 60
    · obtain ⟨hlt1, hlt2⟩ := hlt
      obtain ⟨g, o, rfl, hg, hcl⟩ := act_cells (hdk.rd HRA.out HWS.out) k hlt1
      have hxo := hdk.okA (HOA.out _ (List.getElem_mem hlt1)) HWS.out
      obtain ⟨X, hX⟩ : ∃ X, XS[k] = X := ⟨_, rfl⟩
      rw [hX] at hcl hxo
      clear hX
      have c0 := hcl 0 _ rfl
      have c1 := hcl 1 _ rfl
      have c2 := hcl 2 _ rfl
      have c3 := hcl 3 _ rfl
      have c4 := hcl 4 _ rfl
      have c5 := hcl 5 _ rfl
      have c6 := hcl 6 _ rfl
      rw [Nat.add_zero] at c0
      obtain ⟨S', e, hr'⟩ : ∃ S' e, S.does X = (S', e) := ⟨_, _, rfl⟩
      have hdid := did S X
      rw [hr'] at hdid
      have HR' := hid hr'
      have HDID := hid hdid
      have HXO := hid hxo
      have HNW := hid hnw
      have hcc : S.count ≤ 1048576 := by omega
      have hA : ∀ w2, Below wa.heap.size wa w2 → w2.cell? ⟨g, o + k * 7, none⟩ = some (.int .i64 X.kind) ∧ w2.cell? ⟨g, o + k * 7 + 1, none⟩ = some (.int .i64 X.i) := fun w2 hb2 => by
        have hga : g < wa.heap.size := by have := HWS.out; omega
        exact ⟨(hb2.cell (p := ⟨g, o + k * 7, none⟩) hga).trans ((hdk.below.cell (p := ⟨g, o + k * 7, none⟩) hga).symm.trans c0), (hb2.cell (p := ⟨g, o + k * 7 + 1, none⟩) hga).trans ((hdk.below.cell (p := ⟨g, o + k * 7 + 1, none⟩) hga).symm.trans c1)⟩
      have HA := hid hA
      have hkl : (k : Int) < (l : Int) := by have := HL.out; omega
      have hk60 : (k : Int) < 60 := by omega
      clear hcl hr' hdid hxo hnw hA
      go_wp2_with (go_at_call 12; refine (dk_does (S := S) (by with_reducible assumption) hcc X w.heap.size HXO.out HWS.out HR'.out).mono ?_; rintro e2 w2 ⟨rfl, h2⟩; obtain ⟨d0, d1⟩ := HA.out w2 h2.below)
      all_goals go_roundw
      all_goals first
        | (exact ⟨nextW bb X i e, k + 1, S', by first | (simp [nextW, *]; done) | (unfold nextW; grind), by go_num, by omega, by omega, by with_reducible assumption, by have := HDID.out.count; omega, nw_step HNW.out HDID.out⟩)
        | (simp [intOf]; omega)
    · have hend : (l : Int) ≤ (k : Int) ∨ k = 60 := by
        by_cases h3 : k < XS.length
        · right; omega
        · left; have := HL.out; omega
      have hcc : S.count ≤ 1048576 := by omega
      have HGS : Hid (picks ≠ [] → ∀ g o, Ap = some ⟨g, o, none⟩ → g ≠ gs) := hid (by
        intro hne g o e
        obtain ⟨g0, o0, e0, hg0, _⟩ := HPA.out (by simpa [ints] using hne)
        rw [e0] at e
        cases e
        have := hdk.gs
        have := HWS.out
        omega)
      have hkl2 : k = 60 → (60 : Int) < (l : Int) ∨ (l : Int) ≤ (60 : Int) := by
        intro _
        by_cases h4 : (60 : Int) < (l : Int)
        · exact .inl h4
        · exact .inr (by omega)
      obtain ⟨l1, x1, hr1⟩ : ∃ l1 x1, S.read i = (l1, x1) := ⟨_, _, rfl⟩
      have HR1 := hid hr1
      have HNW := hid hnw
      clear hr1 hnw
      have hcut : S.on = true → S.cut = ({ S with on := false, left := 0 }, 0) := Sp.cut_ok
      obtain ⟨S2, hS2⟩ : ∃ S2 : Sp, ({ S with on := false, left := 0 } : Sp) = S2 := ⟨_, rfl⟩
      obtain ⟨S3, hS3⟩ : ∃ S3 : Sp, ({ S with secs := sett (pickOf picks) S.way S.secs, way := [], on := true, left := 0 } : Sp) = S3 := ⟨_, rfl⟩
      have hst : S2.start picks = (S3, 0) := by
        subst hS2
        rw [Sp.start_ok rfl, ← hS3]
      have hc2 : S2.count ≤ 1048576 := by subst hS2; exact hcc
      have hc3 : S3.count ≤ 1048576 := by subst hS3; exact hcc
      rw [hS2] at hcut
      have HCUT := hid hcut
      have HST := hid hst
      have HR3 : Hid (bb = false → S.on = true → S3.read i = (l1, x1)) := hid (fun hb ho => by
        rw [← hS3, read_after picks (HNW.out hb) ho]
        exact HR1.out)
      clear hcut hst hS2 hS3
      have HKL := hid hkl2
      clear hkl2
      rcases hend with hend | rfl
      · have hdec : decide ((k : Int) < (l : Int)) = false := by simp; omega
        cases bb with
        | true =>
          go_wp2_with fail
          all_goals (go_ret; exact ⟨rfl, HF.out.trans (Dk.frame hdk) (by simp)⟩)
        | false =>
          cases hon : S.on with
          | false =>
            go_wp2_with (go_at_call 14; refine (dk_on (by with_reducible assumption) hon).mono ?_; rintro e w6 ⟨rfl, rfl⟩)
            go_ret
            exact ⟨rfl, HF.out.trans (Dk.frame hdk) (by simp)⟩
          | true =>
            have HON := hid hon
            have hr3 := hid (HR3.out rfl hon)
            have hcut := hid (HCUT.out hon)
            go_wp2_with (first
              | (go_at_call 14; refine (dk_on (by with_reducible assumption) HON.out).mono ?_; rintro e w6 ⟨rfl, rfl⟩)
              | (go_at_call 17; refine (dk_read (S := S) (by with_reducible assumption) hcc i HR1.out).mono ?_; rintro e w6 ⟨rfl, h6⟩)
              | (go_at_call 17; refine (dk_read (S := S3) (by with_reducible assumption) hc3 i hr3.out).mono ?_; rintro e w6 ⟨rfl, h6⟩)
              | (go_at_call 22; refine (dk_cut (S := S) (by with_reducible assumption) hcut.out).mono ?_; rintro e w7 ⟨rfl, h7⟩)
              | (go_at_call 23; refine (dk_start (S := S2) (by with_reducible assumption) hc2 picks Ap lp cp w.heap.size HLP.out (h7.rd HPA.out HWS.out) HP.out (by have := HLP.out; have := HPN.out; omega) HGS.out HST.out).mono ?_; rintro e w8 ⟨rfl, h8⟩))
            go_ret
            exact ⟨by first | rfl | simp, HF.out.trans (Dk.frame (S := S3) (by with_reducible assumption)) (by simp)⟩
      · rcases HKL.out rfl with hl60 | hl60
        · cases bb with
          | true =>
            go_wp2_with fail
            all_goals (go_ret; exact ⟨rfl, HF.out.trans (Dk.frame hdk) (by simp)⟩)
          | false =>
            cases hon : S.on with
            | false =>
              go_wp2_with (go_at_call 14; refine (dk_on (by with_reducible assumption) hon).mono ?_; rintro e w6 ⟨rfl, rfl⟩)
              go_ret
              exact ⟨rfl, HF.out.trans (Dk.frame hdk) (by simp)⟩
            | true =>
              have HON := hid hon
              have hr3 := hid (HR3.out rfl hon)
              have hcut := hid (HCUT.out hon)
              go_wp2_with (first
                | (go_at_call 14; refine (dk_on (by with_reducible assumption) HON.out).mono ?_; rintro e w6 ⟨rfl, rfl⟩)
                | (go_at_call 17; refine (dk_read (S := S) (by with_reducible assumption) hcc i HR1.out).mono ?_; rintro e w6 ⟨rfl, h6⟩)
                | (go_at_call 17; refine (dk_read (S := S3) (by with_reducible assumption) hc3 i hr3.out).mono ?_; rintro e w6 ⟨rfl, h6⟩)
                | (go_at_call 22; refine (dk_cut (S := S) (by with_reducible assumption) hcut.out).mono ?_; rintro e w7 ⟨rfl, h7⟩)
                | (go_at_call 23; refine (dk_start (S := S2) (by with_reducible assumption) hc2 picks Ap lp cp w.heap.size HLP.out (h7.rd HPA.out HWS.out) HP.out (by have := HLP.out; have := HPN.out; omega) HGS.out HST.out).mono ?_; rintro e w8 ⟨rfl, h8⟩))
              go_ret
              exact ⟨by first | rfl | simp, HF.out.trans (Dk.frame (S := S3) (by with_reducible assumption)) (by simp)⟩
        · cases bb with
          | true =>
            go_wp2_with fail
            all_goals (go_ret; exact ⟨rfl, HF.out.trans (Dk.frame hdk) (by simp)⟩)
          | false =>
            cases hon : S.on with
            | false =>
              go_wp2_with (go_at_call 14; refine (dk_on (by with_reducible assumption) hon).mono ?_; rintro e w6 ⟨rfl, rfl⟩)
              go_ret
              exact ⟨rfl, HF.out.trans (Dk.frame hdk) (by simp)⟩
            | true =>
              have HON := hid hon
              have hr3 := hid (HR3.out rfl hon)
              have hcut := hid (HCUT.out hon)
              go_wp2_with (first
                | (go_at_call 14; refine (dk_on (by with_reducible assumption) HON.out).mono ?_; rintro e w6 ⟨rfl, rfl⟩)
                | (go_at_call 17; refine (dk_read (S := S) (by with_reducible assumption) hcc i HR1.out).mono ?_; rintro e w6 ⟨rfl, h6⟩)
                | (go_at_call 17; refine (dk_read (S := S3) (by with_reducible assumption) hc3 i hr3.out).mono ?_; rintro e w6 ⟨rfl, h6⟩)
                | (go_at_call 22; refine (dk_cut (S := S) (by with_reducible assumption) hcut.out).mono ?_; rintro e w7 ⟨rfl, h7⟩)
                | (go_at_call 23; refine (dk_start (S := S2) (by with_reducible assumption) hc2 picks Ap lp cp w.heap.size HLP.out (h7.rd HPA.out HWS.out) HP.out (by have := HLP.out; have := HPN.out; omega) HGS.out HST.out).mono ?_; rintro e w8 ⟨rfl, h8⟩))
              go_ret
              exact ⟨by first | rfl | simp, HF.out.trans (Dk.frame (S := S3) (by with_reducible assumption)) (by simp)⟩

theorem lasts_calls (x i : Int) (A Ap : Option Addr) (l c lp cp : Nat) (XS : List Act0) (picks : List Int) (w : World) (hl : l = XS.length) (hl2 : l ≤ 9223372036854775807) (hok : ∀ X ∈ XS, X.OK w w.heap.size)
    (hr : Rd w w.heap.size A (XS.map Act0.cells).flatten) (hlp : lp = picks.length) (hrp : Rd w w.heap.size Ap (ints picks)) (hp : ∀ x ∈ picks, x ≤ 9223372036854775807) (hpn : lp ≤ 9223372036854775807) :
    Calls Try.prog 4 #[.int .i64 x, .slice A l c, .int .i64 i, .slice Ap lp cp] w (YF w) := by
  by_cases h : 1 ≤ x ∧ x ≤ 64
  · obtain ⟨n, rfl⟩ := Int.eq_ofNat_of_zero_le (show 0 ≤ x by omega)
    exact lasts_ok n i A Ap l c lp cp XS picks w (by omega) (by omega) hl hl2 hok hr hlp hrp hp hpn
  · exact lasts_bad x i _ _ w h
end Go.Proofs.Ytdkgpjmehdpliaa
