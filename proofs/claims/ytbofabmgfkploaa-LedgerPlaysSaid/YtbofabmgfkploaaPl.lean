/-
  The walks of the laws' awake and played.
-/
import Derived.Test.YtbofabmgfkploaaDo
import Derived.Test.YtbofabmgfkploaaActs
namespace Go.Proofs.Ytbofabmgfkploaa
open Go.RowKit
set_option maxRecDepth 10000

/-- behind an operation that is played -/
def plays (S : Lg) (x : Ab) : Lg := if x.body.size ≤ 400 then (S.doo x.op (sb x.body)).1 else S
def playS (l : List Ab) : Lg := l.foldl plays Lg.nil
theorem playS_take (l : List Ab) (k : Nat) (h : k < l.length) : playS (l.take (k + 1)) = plays (playS (l.take k)) l[k] := by
  unfold playS
  rw [List.take_succ_eq_append_getElem h, List.foldl_append]
  rfl
/-- what is played: the first sixty -/
def playN (l : List Ab) : Lg := playS (l.take 60)
set_option maxHeartbeats 1000000 in
theorem played_any (A : Option Addr) (XS : List Ab) (n c : Nat) (w : World) (hr : Rd w w.heap.size A (rows Ab.cells XS)) (hn : n = XS.length) (hbig : n ≤ 9223372036854775807) :
    Calls Try.prog 20 #[.slice A n c] w (NG 63 w (playN XS) (fun p => .pointer (some ⟨p, 0, none⟩))) := by
  have HR := hid hr
  have HN := hid hn
  have HST := hid (fun k (hk : k < XS.length) => playS_take XS k hk)
  have HEND : Hid (∀ k, k = 60 → playS (XS.take k) = playN XS) := hid fun k he => by
    unfold playN
    congr 1
    rw [List.take_eq_take_iff]
    omega
  have HEND2 : Hid (∀ k, k = n → k ≤ 60 → playS (XS.take k) = playN XS) := hid fun k hk he => by
    unfold playN
    congr 1
    rw [List.take_eq_take_iff]
    omega
  clear hr hn
  go_enter Try.func20, Try.ntmps20
  go_wp2_with (go_at_call 11; refine (new_any _).mono ?_; rintro e w1 ⟨p, fp, rfl, hk1, hfp1, hb1⟩)
  have HK1 := hid hk1
  have HFP1 := hid hfp1
  have HB1 := hid hb1
  clear hk1 hfp1 hb1
  go_loopw [4] (fun i wr => ∃ k : Nat, k ≤ n ∧ k ≤ 60 ∧ i = .int .i64 k ∧ Gw 63 p w1 fp (playS (XS.take k)) wr) (fun i _ => n - (intOf i).toNat)
  case atStart => exact ⟨0, by omega, by omega, rfl, Gw.start HK1.out⟩
  case round =>
    obtain ⟨k, hk, hk60, rfl, hgw⟩ := hrel
    have HGW := hid hgw
    have HBE : Hid (Below w.heap.size w wr) := hid (HB1.out.trans (hgw.frame.below HFP1.out HB1.out.size))
    by_cases hlt : k < n
    · by_cases hlt60 : k < 60
      · have hkl : k < XS.length := by rw [← HN.out]; exact hlt
        have hne : rows Ab.cells XS ≠ [] := by
          intro e
          have := rows_len (C := Ab.cells) Ab.len XS
          rw [e] at this
          simp at this
          omega
        obtain ⟨ga, o, rfl, hga, hx⟩ := (show _ from HR.out) hne
        clear hx
        have hrg := fun W (hW : Below w.heap.size w W) => ((HR.out.below hW (Nat.le_refl _)).range Ab.len k hkl)
        have HC0 := hid (fun W (hW : Below w.heap.size w W) => hrg W hW 0 _ rfl)
        have HC1 := hid (fun W (hW : Below w.heap.size w W) => hrg W hW 1 _ rfl)
        rw [Nat.add_zero] at HC0
        have HS := hid (HST.out k hkl)
        have hc1 := HC1.out wr HBE.out
        clear hrg hne hgw
        generalize XS[k] = X at *
        obtain ⟨op, body⟩ := X
        have HC0' : Hid (∀ W : World, Below w.heap.size w W → W.cell? ⟨ga, o + k * 2, none⟩ = some (.int .i64 op)) := hid HC0.out
        have HC1' : Hid (∀ W : World, Below w.heap.size w W → W.cell? ⟨ga, o + k * 2 + 1, none⟩ = some (.string body)) := hid HC1.out
        replace hc1 : wr.cell? ⟨ga, o + k * 2 + 1, none⟩ = some (.string body) := hc1
        clear HC0 HC1
        have hi0 : (0 : Int) ≤ (k : Int) := by omega
        have hi1 : (k : Int) < (n : Int) := by omega
        have hi2 : (k : Int) < 60 := by omega
        by_cases hsz : body.size ≤ 400
        · have HD := hid (fun fq W (hg : Gk 63 p (playS (XS.take k)) fq W) => do_any p fq (playS (XS.take k)) body W (by omega) hg op)
          have HS2 : Hid (playS (XS.take (k + 1)) = ((playS (XS.take k)).doo op (sb body)).1) := hid (by rw [HS.out]; unfold plays; rw [if_pos hsz])
          have hszi : (body.size : Int) ≤ 400 := by omega
          generalize playS (XS.take k) = SK at *
          clear HS
          go_wp2_with fail
          refine wp_region_held_drew (S := fun w' => Below w.heap.size w w') (by kernel_rfl) HBE.out.drew (fun hH => ?_)
          refine wpAnyH_take (i := 0) (v := .pointer (some ⟨p, 0, none⟩)) rfl (by kernel_rfl) (by kernel_rfl) (by kernel_rfl) (fun _ _ _ h => h) (Or.inl ⟨by rfl, fun w' hw' => by clear hw' ; go_simp⟩) hH ?_
          simp only [Act.put]
          refine wpAnyH_take (i := 1) (v := .slice (some ⟨ga, o, none⟩) n c) rfl (by kernel_rfl) (by kernel_rfl) (by kernel_rfl) (fun _ _ _ h => h) (Or.inl ⟨by rfl, fun w' hw' => by clear hw' ; go_simp⟩) hH ?_
          simp only [Act.put]
          refine wpAnyH_take (i := 2) (v := .int .i64 (k : Int)) rfl (by kernel_rfl) (by kernel_rfl) (by kernel_rfl) (fun _ _ _ h => h) (Or.inl ⟨by rfl, fun w' hw' => by clear hw' ; go_simp⟩) hH ?_
          simp only [Act.put]
          refine wpAnyH_take (i := 3) (v := .pointer (some ⟨ga, o + k * 2, none⟩)) rfl (by kernel_rfl) (by kernel_rfl) (by kernel_rfl) (fun _ _ _ h => h) (Or.inl ⟨by rfl, fun w' hw' => by clear hw' ; go_simp⟩) hH ?_
          simp only [Act.put]
          refine wpAnyH_take (i := 4) (v := .pointer (some ⟨ga, o + k * 2, none⟩)) rfl (by kernel_rfl) (by kernel_rfl) (by kernel_rfl) (fun _ _ _ h => h) (Or.inl ⟨by rfl, fun w' hw' => by clear hw' ; go_simp⟩) hH ?_
          simp only [Act.put]
          refine wpAnyH_take (i := 5) (v := .int .i64 op) rfl (by kernel_rfl) (by kernel_rfl) (by kernel_rfl) (fun _ _ _ h => h) (Or.inl ⟨by rfl, fun w' hw' => by have h := HC0'.out w' hw'; go_simp⟩) hH ?_
          simp only [Act.put]
          refine wpAnyH_take (i := 6) (v := .slice (some ⟨ga, o, none⟩) n c) rfl (by kernel_rfl) (by kernel_rfl) (by kernel_rfl) (fun _ _ _ h => h) (Or.inl ⟨by rfl, fun w' hw' => by clear hw' ; go_simp⟩) hH ?_
          simp only [Act.put]
          refine wpAnyH_take (i := 7) (v := .int .i64 (k : Int)) rfl (by kernel_rfl) (by kernel_rfl) (by kernel_rfl) (fun _ _ _ h => h) (Or.inl ⟨by rfl, fun w' hw' => by clear hw' ; go_simp⟩) hH ?_
          simp only [Act.put]
          refine wpAnyH_take (i := 8) (v := .pointer (some ⟨ga, o + k * 2, none⟩)) rfl (by kernel_rfl) (by kernel_rfl) (by kernel_rfl) (fun _ _ _ h => h) (Or.inl ⟨by rfl, fun w' hw' => by clear hw' ; go_simp⟩) hH ?_
          simp only [Act.put]
          refine wpAnyH_take (i := 9) (v := .pointer (some ⟨ga, o + k * 2 + 1, none⟩)) rfl (by kernel_rfl) (by kernel_rfl) (by kernel_rfl) (fun _ _ _ h => h) (Or.inl ⟨by rfl, fun w' hw' => by clear hw' ; go_simp⟩) hH ?_
          simp only [Act.put]
          refine wpAnyH_take (i := 10) (v := .string body) rfl (by kernel_rfl) (by kernel_rfl) (by kernel_rfl) (fun _ _ _ h => h) (Or.inl ⟨by rfl, fun w' hw' => by have h := HC1'.out w' hw'; go_simp⟩) hH ?_
          simp only [Act.put]
          refine wpAnyH_ready (rs := [11]) (by kernel_rfl) (by simp) ?_
          refine AllReadyH.cons rfl (fun K hK => ?_) AllReadyH.nil
          go_simp
          go_at_call 12
          refine (HGW.out.drew.call (fun fq hk => HD.out fq _ hk)).mono ?_
          rintro e w2 ⟨rfl, hg2⟩
          go_wp2_with fail
          refine hK.out _ _ (HB1.out.trans (hg2.frame.below HFP1.out HB1.out.size)) (fun hH => ?_)
          clear hK K
          try simp only [Act.put]
          have HG2 := hid hg2
          clear hg2
          refine wpAnyH_done (by kernel_rfl) ?_ _
          try simp only [Act.put]
          clear hH
          go_wp2_with fail
          go_roundw
          case rel => exact ⟨k + 1, by omega, by omega, by go_num, by rw [HS2.out]; exact HG2.out⟩
          case measure => simp [intOf]; omega
        · have HS2 : Hid (playS (XS.take (k + 1)) = playS (XS.take k)) := hid (by rw [HS.out]; unfold plays; rw [if_neg hsz])
          have hszi : ¬ (body.size : Int) ≤ 400 := by omega
          generalize playS (XS.take k) = SK at *
          clear HS
          go_wp2_with fail
          go_roundw
          case rel => exact ⟨k + 1, by omega, by omega, by go_num, by rw [HS2.out]; exact HGW.out⟩
          case measure => simp [intOf]; omega
      · obtain rfl : k = 60 := by omega
        have HE := hid (HEND.out 60 rfl)
        have hi1 : (60 : Int) < (n : Int) := by omega
        clear hgw
        go_wp2_with fail
        go_ret
        rw [HE.out] at HGW
        obtain ⟨fq, k1, k2, k3⟩ := HGW.out
        exact ⟨p, fq, rfl, k1, fun b hb => by
          rcases k3 b hb with h | h
          · exact HFP1.out b h
          · exact Nat.le_trans HB1.out.size h, HBE.out⟩
    · have hkn : k = n := by omega
      have HE := hid (HEND2.out k hkn hk60)
      have hi1 : ¬ (k : Int) < (n : Int) := by omega
      clear hgw hkn
      go_wp2_with fail
      go_ret
      rw [HE.out] at HGW
      obtain ⟨fq, k1, k2, k3⟩ := HGW.out
      exact ⟨p, fq, rfl, k1, fun b hb => by
        rcases k3 b hb with h | h
        · exact HFP1.out b h
        · exact Nat.le_trans HB1.out.size h, HBE.out⟩

/-! ### the chapter's first example -/
def exs : List Ac := [⟨1, 0, 0, 0⟩, ⟨1, 0, 0, 0⟩, ⟨0, 0, 0, 0⟩]
def exb : List UInt8 := [1, 0, 0, 0, 0, 0, 0, 0, 0, 1, 0, 0, 0, 0, 0, 0, 0, 0, 0, 0, 0, 0, 0, 0, 0, 0, 0]
theorem put_ex : putL askB exs = (exb, 0) := by decide +kernel
theorem doo_ex : (Lg.nil.doo 2 exb).2 = [0, 0, 2, 1] := by decide +kernel
set_option maxHeartbeats 1000000 in
theorem awake_any (w : World) : Calls Try.prog 10 #[] w (VE w (.bool true)) := by
  have HP := hid (fun W A B (hr : Rd W B A (rows Ac.cells exs)) hB => puta_list A exs 3 3 B W hr rfl (Nat.le_refl _) hB (by intro x hx; simp [exs] at hx; rcases hx with rfl | rfl <;> exact ⟨by decide, by decide, by decide, by decide⟩))
  rw [put_ex] at HP
  have HD := hid (fun p fp W (hg : Gk 63 p Lg.nil fp W) => do_any p fp Lg.nil ⟨exb.toArray⟩ W (by decide) hg 2)
  rw [sb_mk, doo_ex] at HD
  have HR := hid (fun W : World => Row.rd (cs := rows Ac.cells exs) (Row.new W 45 (rows Ac.cells exs).toArray) (Nat.lt_succ_self _))
  obtain ⟨i0, hi, hz0, hz1, hz2⟩ := info_parts acInfo
  generalize exb = eb at *
  go_enter Try.func10, Try.ntmps10
  go_wp2_with (first
    | (go_at_call 11; refine (new_any _).mono ?_; rintro e w1 ⟨p, fp, rfl, hk1, hf1, hb1⟩; have HF1 := hid hf1; clear hf1; have HK1 := hid hk1; clear hk1)
    | (go_at_call 24; refine (HP.out _ _ _ (HR.out _) (by simp)).mono ?_; rintro e w2 ⟨rfl, hb2⟩; have hbb := ((Below.refl w1.heap.size w1).alloc (Nat.le_refl _) _).trans (hb2.mono (by simp)))
    | (go_at_call 12; refine (HD.out p fp _ (HK1.out.below hbb)).mono ?_; rintro e w3 ⟨rfl, hg3⟩))
  go_ret
  have h12 := hb1.trans (hbb.mono hb1.size)
  exact ⟨rfl, h12.trans (hg3.frame.below HF1.out h12.size)⟩
end Go.Proofs.Ytbofabmgfkploaa
