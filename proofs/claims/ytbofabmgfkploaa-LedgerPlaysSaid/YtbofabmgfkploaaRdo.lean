/-
  The walk of the document's Do.
-/
import Derived.Test.YtbofabmgfkploaaRfd
import Derived.Test.YtbofabmgfkploaaEl
namespace Go.Proofs.Ytbofabmgfkploaa
open Go.RowKit
set_option maxRecDepth 10000


set_option maxHeartbeats 400000 in
theorem rdo_2_no (p : Nat) (s : ByteArray) (w : World) (hs : s.size ≤ 140737488355328) (hno : (takL 9 decA (sb s)).2 = false) :
    Calls Try.prog 13 #[.pointer (some ⟨p, 0, none⟩), .int .i64 2, .string s] w (SE w [1]) := by
  have HT := hid (fun W => rtaka_list s W hs)
  have HB0 : Hid (∀ W, Calls Try.prog 36 #[.int .i64 0] W (SE W [0])) := hid fun W => rbyte_any 0 W (by decide)
  have HB1 : Hid (∀ W, Calls Try.prog 36 #[.int .i64 1] W (SE W [1])) := hid fun W => rbyte_any 1 W (by decide)
  obtain ⟨⟨l, b⟩, hr⟩ : ∃ r, takL 9 decA (sb s) = r := ⟨_, rfl⟩
  rw [hr] at hno HT
  obtain rfl : b = false := hno
  have HT2 : Hid (∀ W, Calls Try.prog 37 #[.string s] W fun e w' => ∃ A c, e = .returned (.tuple #[.slice A l.length c, .bool false]) ∧ Below W.heap.size W w') := hid fun W => ((HT.out W).mono fun e w' ⟨A, c, h1, _, _, h2, _⟩ => ⟨A, c, h1, h2⟩)
  clear HT hr hs
  go_enter Try.func13, Try.ntmps13
  go_wp2_with (go_at_call 36; refine (HB0.out _).mono ?_; rintro e w1 ⟨rfl, hb1⟩; clear HB0)
  go_wp2_with (first
    | (go_at_call 37; refine (HT2.out _).mono ?_; rintro e w2 ⟨A, c, rfl, hb2⟩)
    | (go_at_call 36; refine (HB1.out _).mono ?_; rintro e w3 ⟨rfl, hb3⟩))
  go_ret
  exact ⟨rfl, hb1.trans ((hb2.trans (hb3.mono hb2.size)).mono hb1.size)⟩
set_option maxHeartbeats 1000000 in
theorem rdo_2_yes (p : Nat) (fp : List Nat) (S : Lg) (s : ByteArray) (w : World) (hs : s.size ≤ 140737488355328) (h : Gk 30 p S fp w) (l : List Ac) (hr : takL 9 decA (sb s) = (l, true)) :
    Calls Try.prog 13 #[.pointer (some ⟨p, 0, none⟩), .int .i64 2, .string s] w fun e w' => e = .returned (.string ⟨(runL mka S l).2.toArray⟩) ∧ Gw 30 p w fp (runL mka S l).1 w' := by
  have HT := hid (fun W => rtaka_list s W hs)
  have HB0 : Hid (∀ W, Calls Try.prog 36 #[.int .i64 0] W (SE W [0])) := hid fun W => rbyte_any 0 W (by decide)
  have hle := takL_le 9 decA (sb s)
  have hok := takL_all (n := 9) (s := sb s) (ok := (fun x : Ac => x.flat ∧ x.deb = 0 ∧ x.cre = 0)) (fun p => ⟨decA_flat p, rfl, rfl⟩)
  rw [hr] at HT hle hok
  simp only at hle hok
  obtain ⟨n, hn⟩ : ∃ n, n = l.length := ⟨_, rfl⟩
  have HT2 : Hid (∀ W, Calls Try.prog 37 #[.string s] W fun e w' => ∃ A c, e = .returned (.tuple #[.slice A n c, .bool true]) ∧ n ≤ c ∧ Rd w' w'.heap.size A (rows Ac.cells l) ∧ Below W.heap.size W w' ∧ NewA W A) := hid (by rw [hn]; exact HT.out)
  rw [← hn] at hle
  have HN := hid hn
  have HOK := hid (fun k (hk : k < l.length) => hok l[k] (List.getElem_mem hk))
  have HLT := hid h.lt
  have HH := hid h
  have HZ := hid acSize
  have HBY := hid (fun (n : Nat) W (h : (n : Int) ≤ 255) => rbyte_any n W h)
  have HEND : Hid (runL mka S (l.take n) = runL mka S l) := hid (by rw [List.take_of_length_le (by omega)])
  have HST := hid (fun k (hk : k < l.length) => runL_take mka S l k hk)
  have HLE := hid (fun k => runL_len mka 33 mka_len S (l.take k))
  have HTL : Hid (∀ k, (l.take k).length ≤ k) := hid fun k => List.length_take_le _ _
  clear HT hr hs hok hn h
  go_enter Try.func13, Try.ntmps13
  go_wp2_with (first
    | (go_at_call 36; refine (HB0.out _).mono ?_; rintro e w1 ⟨rfl, hb1⟩; have HBB := hid hb1; clear hb1)
    | (go_at_call 37; refine (HT2.out _).mono ?_; rintro e w2 ⟨A, c, rfl, hnc, hrd2, hb2, hnew⟩; have HRD := hid hrd2; have HB2 := hid hb2; have HNEW := hid hnew; clear hrd2 hb2 hnew))
  have HBW : Hid (Below w.heap.size w w2) := hid (HBB.out.trans (HB2.out.mono HBB.out.size))
  have HNW : Hid (NewA w A) := hid (HNEW.out.le HBB.out.size)
  have HG1 := hid (Gw.start (HH.out.below HBW.out))
  clear HT2 HB0
  go_loopw [7, 10] (fun sv i wr => ∃ k : Nat, k ≤ n ∧ i = .int .i64 k ∧ sv = .string ⟨(runL mka S (l.take k)).2.toArray⟩ ∧ Gw 30 p w2 fp (runL mka S (l.take k)).1 wr) (fun _ i _ => n - (intOf i).toNat)
  case atStart => exact ⟨0, by omega, rfl, rfl, HG1.out⟩
  case round =>
    obtain ⟨k, hk, rfl, rfl, hgw⟩ := hrel
    have HGW := hid hgw
    have hlen := HLE.out k
    have hlen2 := HTL.out k
    by_cases hlt : k < n
    · have hkl : k < l.length := by rw [← HN.out]; exact hlt
      have hrd := hgw.rdA HRD.out HNW.out HLT.out
      obtain ⟨ga, o, rfl⟩ := shape_of hrd Ac.len (by decide) (by omega)
      have hki : (k : Int) < (n : Int) := by omega
      have HS := hid (HST.out k hkl)
      obtain ⟨SK, hSK⟩ : ∃ SK, (runL mka S (l.take k)).1 = SK := ⟨_, rfl⟩
      rw [hSK] at HGW HS
      obtain ⟨acc, hac⟩ : ∃ acc, (runL mka S (l.take k)).2 = acc := ⟨_, rfl⟩
      rw [hac] at hlen HS ⊢
      clear hSK hac
      have HC4 : Hid ((Ac.cells l[k]).length = 4) := hid (Ac.len _)
      have HRG := hid (range_of hrd Ac.len hkl)
      obtain ⟨cd, hcd⟩ : ∃ cd, SK.ja l[k] = cd := ⟨_, rfl⟩
      have hc10 : (cd : Int) ≤ 255 := by have := SK.ja_le l[k]; omega
      obtain ⟨SN, hSN⟩ : ∃ SN, SK.opn l[k] = SN := ⟨_, rfl⟩
      have hmk : mka SK l[k] = (SN, [UInt8.ofNat cd]) := by unfold mka; rw [hcd, hSN]
      rw [hmk] at HS
      have HX : Hid (∀ fq W, Gk 30 p SK fq W → Calls Try.prog 38 #[.pointer (some ⟨p, 0, none⟩), .agg (Ac.cells l[k]).toArray] W fun e w' => e = .returned (.int .i64 (cd : Int)) ∧ Gw 30 p W fq SN w') := hid fun fq W hg => by
        rw [← hcd, ← hSN]
        exact ropen_any p fq SK l[k] W hg (HOK.out k hkl).1 (HOK.out k hkl).2.1 (HOK.out k hkl).2.2
      have HBC := hid (fun W => HBY.out cd W hc10)
      have hq : ¬ (9223372036854775807 < acc.length + 1) := by omega
      generalize Ac.cells l[k] = X at *
      clear hcd hSN hmk
      clear hrd hgw hlen hlen2
      go_wp2_with (first
        | (refine wpList_load_mid rfl 45 (.tmp 38) rfl ga (o + k * 4) rfl X _ HRG.out Try.underlying45 rfl (by rw [HC4.out]; exact HZ.out) ?_)
        | (go_at_call 38; refine (HGW.out.call (fun fq hk => HX.out fq wr hk)).mono ?_; rintro e w3 ⟨rfl, hg3⟩; have HG3 := hid hg3; clear hg3)
        | (go_at_call 36; refine (HBC.out _).mono ?_; rintro e w4 ⟨rfl, hb4⟩; replace HG3 := hid (HG3.out.below hb4)))
      exact ⟨⟨k + 1, by omega, by go_num, by rw [HS.out, ← cat_mk], by rw [HS.out]; exact HG3.out⟩, by simp [intOf]; omega⟩
    · obtain rfl : k = n := by omega
      clear hgw
      go_wp2_with fail
      go_ret
      refine ⟨by rw [HEND.out]; rfl, ?_⟩
      rw [← HEND.out]
      obtain ⟨fq, k1, k2, k3⟩ := HGW.out
      have hs1 := HBW.out.size
      exact ⟨fq, k1, ((Fr.of_below HBW.out).mono (fq := fp) (by simp)).trans k2 (fun b hb _ => hb), fun g hg => by
        rcases k3 g hg with h | h
        · exact .inl h
        · right; omega⟩

set_option maxHeartbeats 400000 in
theorem rdo_3_no (p : Nat) (s : ByteArray) (w : World) (hs : s.size ≤ 140737488355328) (hno : (takL 32 decT (sb s)).2 = false) :
    Calls Try.prog 13 #[.pointer (some ⟨p, 0, none⟩), .int .i64 3, .string s] w (SE w [1]) := by
  have HT := hid (fun W => rtakt_list s W hs)
  have HB0 : Hid (∀ W, Calls Try.prog 36 #[.int .i64 0] W (SE W [0])) := hid fun W => rbyte_any 0 W (by decide)
  have HB1 : Hid (∀ W, Calls Try.prog 36 #[.int .i64 1] W (SE W [1])) := hid fun W => rbyte_any 1 W (by decide)
  obtain ⟨⟨l, b⟩, hr⟩ : ∃ r, takL 32 decT (sb s) = r := ⟨_, rfl⟩
  rw [hr] at hno HT
  obtain rfl : b = false := hno
  have HT2 : Hid (∀ W, Calls Try.prog 39 #[.string s] W fun e w' => ∃ A c, e = .returned (.tuple #[.slice A l.length c, .bool false]) ∧ Below W.heap.size W w') := hid fun W => ((HT.out W).mono fun e w' ⟨A, c, h1, _, _, h2, _⟩ => ⟨A, c, h1, h2⟩)
  clear HT hr hs
  go_enter Try.func13, Try.ntmps13
  go_wp2_with (go_at_call 36; refine (HB0.out _).mono ?_; rintro e w1 ⟨rfl, hb1⟩; clear HB0)
  go_wp2_with (first
    | (go_at_call 39; refine (HT2.out _).mono ?_; rintro e w2 ⟨A, c, rfl, hb2⟩)
    | (go_at_call 36; refine (HB1.out _).mono ?_; rintro e w3 ⟨rfl, hb3⟩))
  go_ret
  exact ⟨rfl, hb1.trans ((hb2.trans (hb3.mono hb2.size)).mono hb1.size)⟩
set_option maxHeartbeats 1000000 in
theorem rdo_3_yes (p : Nat) (fp : List Nat) (S : Lg) (s : ByteArray) (w : World) (hs : s.size ≤ 140737488355328) (h : Gk 30 p S fp w) (l : List Tr) (hr : takL 32 decT (sb s) = (l, true)) :
    Calls Try.prog 13 #[.pointer (some ⟨p, 0, none⟩), .int .i64 3, .string s] w fun e w' => e = .returned (.string ⟨(runL mkt S l).2.toArray⟩) ∧ Gw 30 p w fp (runL mkt S l).1 w' := by
  have HT := hid (fun W => rtakt_list s W hs)
  have HB0 : Hid (∀ W, Calls Try.prog 36 #[.int .i64 0] W (SE W [0])) := hid fun W => rbyte_any 0 W (by decide)
  have hle := takL_le 32 decT (sb s)
  have hok := takL_all (n := 32) (s := sb s) (ok := Tr.ok) decT_ok
  rw [hr] at HT hle hok
  simp only at hle hok
  obtain ⟨n, hn⟩ : ∃ n, n = l.length := ⟨_, rfl⟩
  have HT2 : Hid (∀ W, Calls Try.prog 39 #[.string s] W fun e w' => ∃ A c, e = .returned (.tuple #[.slice A n c, .bool true]) ∧ n ≤ c ∧ Rd w' w'.heap.size A (rows Tr.cells l) ∧ Below W.heap.size W w' ∧ NewA W A) := hid (by rw [hn]; exact HT.out)
  rw [← hn] at hle
  have HN := hid hn
  have HOK := hid (fun k (hk : k < l.length) => hok l[k] (List.getElem_mem hk))
  have HLT := hid h.lt
  have HH := hid h
  have HZ := hid trSize
  have HBY := hid (fun (n : Nat) W (h : (n : Int) ≤ 255) => rbyte_any n W h)
  have HEND : Hid (runL mkt S (l.take n) = runL mkt S l) := hid (by rw [List.take_of_length_le (by omega)])
  have HST := hid (fun k (hk : k < l.length) => runL_take mkt S l k hk)
  have HLE := hid (fun k => runL_len mkt 33 mkt_len S (l.take k))
  have HTL : Hid (∀ k, (l.take k).length ≤ k) := hid fun k => List.length_take_le _ _
  clear HT hr hs hok hn h
  go_enter Try.func13, Try.ntmps13
  go_wp2_with (first
    | (go_at_call 36; refine (HB0.out _).mono ?_; rintro e w1 ⟨rfl, hb1⟩; have HBB := hid hb1; clear hb1)
    | (go_at_call 39; refine (HT2.out _).mono ?_; rintro e w2 ⟨A, c, rfl, hnc, hrd2, hb2, hnew⟩; have HRD := hid hrd2; have HB2 := hid hb2; have HNEW := hid hnew; clear hrd2 hb2 hnew))
  have HBW : Hid (Below w.heap.size w w2) := hid (HBB.out.trans (HB2.out.mono HBB.out.size))
  have HNW : Hid (NewA w A) := hid (HNEW.out.le HBB.out.size)
  have HG1 := hid (Gw.start (HH.out.below HBW.out))
  clear HT2 HB0
  go_loopw [7, 13] (fun sv i wr => ∃ k : Nat, k ≤ n ∧ i = .int .i64 k ∧ sv = .string ⟨(runL mkt S (l.take k)).2.toArray⟩ ∧ Gw 30 p w2 fp (runL mkt S (l.take k)).1 wr) (fun _ i _ => n - (intOf i).toNat)
  case atStart => exact ⟨0, by omega, rfl, rfl, HG1.out⟩
  case round =>
    obtain ⟨k, hk, rfl, rfl, hgw⟩ := hrel
    have HGW := hid hgw
    have hlen := HLE.out k
    have hlen2 := HTL.out k
    by_cases hlt : k < n
    · have hkl : k < l.length := by rw [← HN.out]; exact hlt
      have hrd := hgw.rdA HRD.out HNW.out HLT.out
      obtain ⟨ga, o, rfl⟩ := shape_of hrd Tr.len (by decide) (by omega)
      have hki : (k : Int) < (n : Int) := by omega
      have HS := hid (HST.out k hkl)
      obtain ⟨SK, hSK⟩ : ∃ SK, (runL mkt S (l.take k)).1 = SK := ⟨_, rfl⟩
      rw [hSK] at HGW HS
      obtain ⟨acc, hac⟩ : ∃ acc, (runL mkt S (l.take k)).2 = acc := ⟨_, rfl⟩
      rw [hac] at hlen HS ⊢
      clear hSK hac
      have HC4 : Hid ((Tr.cells l[k]).length = 4) := hid (Tr.len _)
      have HRG := hid (range_of hrd Tr.len hkl)
      obtain ⟨cd, hcd⟩ : ∃ cd, SK.jt l[k] = cd := ⟨_, rfl⟩
      have hc10 : (cd : Int) ≤ 255 := by have := SK.jt_le l[k]; omega
      obtain ⟨SN, hSN⟩ : ∃ SN, SK.mov l[k] = SN := ⟨_, rfl⟩
      have hmk : mkt SK l[k] = (SN, [UInt8.ofNat cd]) := by unfold mkt; rw [hcd, hSN]
      rw [hmk] at HS
      have HX : Hid (∀ fq W, Gk 30 p SK fq W → Calls Try.prog 40 #[.pointer (some ⟨p, 0, none⟩), .agg (Tr.cells l[k]).toArray] W fun e w' => e = .returned (.int .i64 (cd : Int)) ∧ Gw 30 p W fq SN w') := hid fun fq W hg => by
        rw [← hcd, ← hSN]
        exact rmove_any p fq SK l[k] W hg (HOK.out k hkl)
      have HBC := hid (fun W => HBY.out cd W hc10)
      have hq : ¬ (9223372036854775807 < acc.length + 1) := by omega
      generalize Tr.cells l[k] = X at *
      clear hcd hSN hmk
      clear hrd hgw hlen hlen2
      go_wp2_with (first
        | (refine wpList_load_mid rfl 43 (.tmp 64) rfl ga (o + k * 4) rfl X _ HRG.out Try.underlying43 rfl (by rw [HC4.out]; exact HZ.out) ?_)
        | (go_at_call 40; refine (HGW.out.call (fun fq hk => HX.out fq wr hk)).mono ?_; rintro e w3 ⟨rfl, hg3⟩; have HG3 := hid hg3; clear hg3)
        | (go_at_call 36; refine (HBC.out _).mono ?_; rintro e w4 ⟨rfl, hb4⟩; replace HG3 := hid (HG3.out.below hb4)))
      exact ⟨⟨k + 1, by omega, by go_num, by rw [HS.out, ← cat_mk], by rw [HS.out]; exact HG3.out⟩, by simp [intOf]; omega⟩
    · obtain rfl : k = n := by omega
      clear hgw
      go_wp2_with fail
      go_ret
      refine ⟨by rw [HEND.out]; rfl, ?_⟩
      rw [← HEND.out]
      obtain ⟨fq, k1, k2, k3⟩ := HGW.out
      have hs1 := HBW.out.size
      exact ⟨fq, k1, ((Fr.of_below HBW.out).mono (fq := fp) (by simp)).trans k2 (fun b hb _ => hb), fun g hg => by
        rcases k3 g hg with h | h
        · exact .inl h
        · right; omega⟩

set_option maxHeartbeats 400000 in
theorem rdo_4_no (p : Nat) (s : ByteArray) (w : World) (hs : s.size ≤ 140737488355328) (hno : (takL 8 decI (sb s)).2 = false) :
    Calls Try.prog 13 #[.pointer (some ⟨p, 0, none⟩), .int .i64 4, .string s] w (SE w [1]) := by
  have HT := hid (fun W => rtaki_list s W hs)
  have HB0 : Hid (∀ W, Calls Try.prog 36 #[.int .i64 0] W (SE W [0])) := hid fun W => rbyte_any 0 W (by decide)
  have HB1 : Hid (∀ W, Calls Try.prog 36 #[.int .i64 1] W (SE W [1])) := hid fun W => rbyte_any 1 W (by decide)
  obtain ⟨⟨l, b⟩, hr⟩ : ∃ r, takL 8 decI (sb s) = r := ⟨_, rfl⟩
  rw [hr] at hno HT
  obtain rfl : b = false := hno
  have HT2 : Hid (∀ W, Calls Try.prog 41 #[.string s] W fun e w' => ∃ A c, e = .returned (.tuple #[.slice A l.length c, .bool false]) ∧ Below W.heap.size W w') := hid fun W => ((HT.out W).mono fun e w' ⟨A, c, h1, _, _, h2, _⟩ => ⟨A, c, h1, h2⟩)
  clear HT hr hs
  go_enter Try.func13, Try.ntmps13
  go_wp2_with (go_at_call 36; refine (HB0.out _).mono ?_; rintro e w1 ⟨rfl, hb1⟩; clear HB0)
  go_wp2_with (first
    | (go_at_call 41; refine (HT2.out _).mono ?_; rintro e w2 ⟨A, c, rfl, hb2⟩)
    | (go_at_call 36; refine (HB1.out _).mono ?_; rintro e w3 ⟨rfl, hb3⟩))
  go_ret
  exact ⟨rfl, hb1.trans ((hb2.trans (hb3.mono hb2.size)).mono hb1.size)⟩
set_option maxHeartbeats 1000000 in
theorem rdo_4_yes (p : Nat) (fp : List Nat) (S : Lg) (s : ByteArray) (w : World) (hs : s.size ≤ 140737488355328) (h : Gk 30 p S fp w) (l : List Nat) (hr : takL 8 decI (sb s) = (l, true)) :
    Calls Try.prog 13 #[.pointer (some ⟨p, 0, none⟩), .int .i64 4, .string s] w fun e w' => e = .returned (.string ⟨(runL tela S l).2.toArray⟩) ∧ Gw 30 p w fp (runL tela S l).1 w' := by
  have HT := hid (fun W => rtaki_list s W hs)
  have HB0 : Hid (∀ W, Calls Try.prog 36 #[.int .i64 0] W (SE W [0])) := hid fun W => rbyte_any 0 W (by decide)
  have hle := takL_le 8 decI (sb s)
  have hok := takL_all (n := 8) (s := sb s) (ok := U64) decI_ok
  rw [hr] at HT hle hok
  simp only at hle hok
  obtain ⟨n, hn⟩ : ∃ n, n = l.length := ⟨_, rfl⟩
  have HT2 : Hid (∀ W, Calls Try.prog 41 #[.string s] W fun e w' => ∃ A c, e = .returned (.tuple #[.slice A n c, .bool true]) ∧ n ≤ c ∧ Rd w' w'.heap.size A (rows Ic l) ∧ Below W.heap.size W w' ∧ NewA W A) := hid (by rw [hn]; exact HT.out)
  rw [← hn] at hle
  have HN := hid hn
  have HOK := hid (fun k (hk : k < l.length) => hok l[k] (List.getElem_mem hk))
  have HLT := hid h.lt
  have HH := hid h
  have HEND : Hid (runL tela S (l.take n) = runL tela S l) := hid (by rw [List.take_of_length_le (by omega)])
  have HST := hid (fun k (hk : k < l.length) => runL_take tela S l k hk)
  have HLE := hid (fun k => runL_len tela 33 tela_len S (l.take k))
  have HTL : Hid (∀ k, (l.take k).length ≤ k) := hid fun k => List.length_take_le _ _
  clear HT hr hs hok hn h
  go_enter Try.func13, Try.ntmps13
  go_wp2_with (first
    | (go_at_call 36; refine (HB0.out _).mono ?_; rintro e w1 ⟨rfl, hb1⟩; have HBB := hid hb1; clear hb1)
    | (go_at_call 41; refine (HT2.out _).mono ?_; rintro e w2 ⟨A, c, rfl, hnc, hrd2, hb2, hnew⟩; have HRD := hid hrd2; have HB2 := hid hb2; have HNEW := hid hnew; clear hrd2 hb2 hnew))
  have HBW : Hid (Below w.heap.size w w2) := hid (HBB.out.trans (HB2.out.mono HBB.out.size))
  have HNW : Hid (NewA w A) := hid (HNEW.out.le HBB.out.size)
  have HG1 := hid (Gw.start (HH.out.below HBW.out))
  clear HT2 HB0
  go_loopw [7, 16] (fun sv i wr => ∃ k : Nat, k ≤ n ∧ i = .int .i64 k ∧ sv = .string ⟨(runL tela S (l.take k)).2.toArray⟩ ∧ Gw 30 p w2 fp (runL tela S (l.take k)).1 wr) (fun _ i _ => n - (intOf i).toNat)
  case atStart => exact ⟨0, by omega, rfl, rfl, HG1.out⟩
  case round =>
    obtain ⟨k, hk, rfl, rfl, hgw⟩ := hrel
    have HGW := hid hgw
    have hlen := HLE.out k
    have hlen2 := HTL.out k
    by_cases hlt : k < n
    · have hkl : k < l.length := by rw [← HN.out]; exact hlt
      have hrd := hgw.rdA HRD.out HNW.out HLT.out
      obtain ⟨ga, o, rfl⟩ := shape_of hrd Ic_len (by decide) (by omega)
      have hki : (k : Int) < (n : Int) := by omega
      have HS := hid (HST.out k hkl)
      obtain ⟨SK, hSK⟩ : ∃ SK, (runL tela S (l.take k)).1 = SK := ⟨_, rfl⟩
      rw [hSK] at HGW HS
      obtain ⟨acc, hac⟩ : ∃ acc, (runL tela S (l.take k)).2 = acc := ⟨_, rfl⟩
      rw [hac] at hlen HS ⊢
      clear hSK hac
      have hcl : wr.cell? ⟨ga, o + k, none⟩ = some (.int .u64 (l[k] : Int)) := by
        have := range_of hrd Ic_len hkl 0 _ rfl
        rw [Nat.mul_one] at this
        exact this
      obtain ⟨bs, hbs⟩ : ∃ bs, (tela SK l[k]).2 = bs := ⟨_, rfl⟩
      obtain ⟨SN, hSN⟩ : ∃ SN, (tela SK l[k]).1 = SN := ⟨_, rfl⟩
      have hbl := tela_len SK l[k]
      rw [hbs] at HS hbl
      rw [hSN] at HS
      have HX : Hid (∀ fq W, Gk 30 p SK fq W → Calls Try.prog 42 #[.pointer (some ⟨p, 0, none⟩), .int .i64 4, .int .u64 (l[k] : Int)] W fun e w' => e = .returned (.string ⟨bs.toArray⟩) ∧ Gw 30 p W fq SN w') := hid fun fq W hg => by
        rw [← hbs, ← hSN]
        exact rfind_4 p fq SK l[k] W hg
      have hq : ¬ (9223372036854775807 < acc.length + bs.length) := by omega
      generalize l[k] = X at *
      clear hbs hSN hbl
      clear hrd hgw hlen hlen2
      go_wp2_with (go_at_call 42; refine (HGW.out.call (fun fq hk => HX.out fq wr hk)).mono ?_; rintro e w3 ⟨rfl, hg3⟩; have HG3 := hid hg3; clear hg3)
      exact ⟨⟨k + 1, by omega, by go_num, by rw [HS.out, ← cat_mk], by rw [HS.out]; exact HG3.out⟩, by simp [intOf]; omega⟩
    · obtain rfl : k = n := by omega
      clear hgw
      go_wp2_with fail
      go_ret
      refine ⟨by rw [HEND.out]; rfl, ?_⟩
      rw [← HEND.out]
      obtain ⟨fq, k1, k2, k3⟩ := HGW.out
      have hs1 := HBW.out.size
      exact ⟨fq, k1, ((Fr.of_below HBW.out).mono (fq := fp) (by simp)).trans k2 (fun b hb _ => hb), fun g hg => by
        rcases k3 g hg with h | h
        · exact .inl h
        · right; omega⟩

set_option maxHeartbeats 400000 in
theorem rdo_5_no (p : Nat) (s : ByteArray) (w : World) (hs : s.size ≤ 140737488355328) (hno : (takL 8 decI (sb s)).2 = false) :
    Calls Try.prog 13 #[.pointer (some ⟨p, 0, none⟩), .int .i64 5, .string s] w (SE w [1]) := by
  have HT := hid (fun W => rtaki_list s W hs)
  have HB0 : Hid (∀ W, Calls Try.prog 36 #[.int .i64 0] W (SE W [0])) := hid fun W => rbyte_any 0 W (by decide)
  have HB1 : Hid (∀ W, Calls Try.prog 36 #[.int .i64 1] W (SE W [1])) := hid fun W => rbyte_any 1 W (by decide)
  obtain ⟨⟨l, b⟩, hr⟩ : ∃ r, takL 8 decI (sb s) = r := ⟨_, rfl⟩
  rw [hr] at hno HT
  obtain rfl : b = false := hno
  have HT2 : Hid (∀ W, Calls Try.prog 41 #[.string s] W fun e w' => ∃ A c, e = .returned (.tuple #[.slice A l.length c, .bool false]) ∧ Below W.heap.size W w') := hid fun W => ((HT.out W).mono fun e w' ⟨A, c, h1, _, _, h2, _⟩ => ⟨A, c, h1, h2⟩)
  clear HT hr hs
  go_enter Try.func13, Try.ntmps13
  go_wp2_with (go_at_call 36; refine (HB0.out _).mono ?_; rintro e w1 ⟨rfl, hb1⟩; clear HB0)
  go_wp2_with (first
    | (go_at_call 41; refine (HT2.out _).mono ?_; rintro e w2 ⟨A, c, rfl, hb2⟩)
    | (go_at_call 36; refine (HB1.out _).mono ?_; rintro e w3 ⟨rfl, hb3⟩))
  go_ret
  exact ⟨rfl, hb1.trans ((hb2.trans (hb3.mono hb2.size)).mono hb1.size)⟩
set_option maxHeartbeats 1000000 in
theorem rdo_5_yes (p : Nat) (fp : List Nat) (S : Lg) (s : ByteArray) (w : World) (hs : s.size ≤ 140737488355328) (h : Gk 30 p S fp w) (l : List Nat) (hr : takL 8 decI (sb s) = (l, true)) :
    Calls Try.prog 13 #[.pointer (some ⟨p, 0, none⟩), .int .i64 5, .string s] w fun e w' => e = .returned (.string ⟨(runL telt S l).2.toArray⟩) ∧ Gw 30 p w fp (runL telt S l).1 w' := by
  have HT := hid (fun W => rtaki_list s W hs)
  have HB0 : Hid (∀ W, Calls Try.prog 36 #[.int .i64 0] W (SE W [0])) := hid fun W => rbyte_any 0 W (by decide)
  have hle := takL_le 8 decI (sb s)
  have hok := takL_all (n := 8) (s := sb s) (ok := U64) decI_ok
  rw [hr] at HT hle hok
  simp only at hle hok
  obtain ⟨n, hn⟩ : ∃ n, n = l.length := ⟨_, rfl⟩
  have HT2 : Hid (∀ W, Calls Try.prog 41 #[.string s] W fun e w' => ∃ A c, e = .returned (.tuple #[.slice A n c, .bool true]) ∧ n ≤ c ∧ Rd w' w'.heap.size A (rows Ic l) ∧ Below W.heap.size W w' ∧ NewA W A) := hid (by rw [hn]; exact HT.out)
  rw [← hn] at hle
  have HN := hid hn
  have HOK := hid (fun k (hk : k < l.length) => hok l[k] (List.getElem_mem hk))
  have HLT := hid h.lt
  have HH := hid h
  have HEND : Hid (runL telt S (l.take n) = runL telt S l) := hid (by rw [List.take_of_length_le (by omega)])
  have HST := hid (fun k (hk : k < l.length) => runL_take telt S l k hk)
  have HLE := hid (fun k => runL_len telt 33 telt_len S (l.take k))
  have HTL : Hid (∀ k, (l.take k).length ≤ k) := hid fun k => List.length_take_le _ _
  clear HT hr hs hok hn h
  go_enter Try.func13, Try.ntmps13
  go_wp2_with (first
    | (go_at_call 36; refine (HB0.out _).mono ?_; rintro e w1 ⟨rfl, hb1⟩; have HBB := hid hb1; clear hb1)
    | (go_at_call 41; refine (HT2.out _).mono ?_; rintro e w2 ⟨A, c, rfl, hnc, hrd2, hb2, hnew⟩; have HRD := hid hrd2; have HB2 := hid hb2; have HNEW := hid hnew; clear hrd2 hb2 hnew))
  have HBW : Hid (Below w.heap.size w w2) := hid (HBB.out.trans (HB2.out.mono HBB.out.size))
  have HNW : Hid (NewA w A) := hid (HNEW.out.le HBB.out.size)
  have HG1 := hid (Gw.start (HH.out.below HBW.out))
  clear HT2 HB0
  go_loopw [7, 16] (fun sv i wr => ∃ k : Nat, k ≤ n ∧ i = .int .i64 k ∧ sv = .string ⟨(runL telt S (l.take k)).2.toArray⟩ ∧ Gw 30 p w2 fp (runL telt S (l.take k)).1 wr) (fun _ i _ => n - (intOf i).toNat)
  case atStart => exact ⟨0, by omega, rfl, rfl, HG1.out⟩
  case round =>
    obtain ⟨k, hk, rfl, rfl, hgw⟩ := hrel
    have HGW := hid hgw
    have hlen := HLE.out k
    have hlen2 := HTL.out k
    by_cases hlt : k < n
    · have hkl : k < l.length := by rw [← HN.out]; exact hlt
      have hrd := hgw.rdA HRD.out HNW.out HLT.out
      obtain ⟨ga, o, rfl⟩ := shape_of hrd Ic_len (by decide) (by omega)
      have hki : (k : Int) < (n : Int) := by omega
      have HS := hid (HST.out k hkl)
      obtain ⟨SK, hSK⟩ : ∃ SK, (runL telt S (l.take k)).1 = SK := ⟨_, rfl⟩
      rw [hSK] at HGW HS
      obtain ⟨acc, hac⟩ : ∃ acc, (runL telt S (l.take k)).2 = acc := ⟨_, rfl⟩
      rw [hac] at hlen HS ⊢
      clear hSK hac
      have hcl : wr.cell? ⟨ga, o + k, none⟩ = some (.int .u64 (l[k] : Int)) := by
        have := range_of hrd Ic_len hkl 0 _ rfl
        rw [Nat.mul_one] at this
        exact this
      obtain ⟨bs, hbs⟩ : ∃ bs, (telt SK l[k]).2 = bs := ⟨_, rfl⟩
      obtain ⟨SN, hSN⟩ : ∃ SN, (telt SK l[k]).1 = SN := ⟨_, rfl⟩
      have hbl := telt_len SK l[k]
      rw [hbs] at HS hbl
      rw [hSN] at HS
      have HX : Hid (∀ fq W, Gk 30 p SK fq W → Calls Try.prog 42 #[.pointer (some ⟨p, 0, none⟩), .int .i64 5, .int .u64 (l[k] : Int)] W fun e w' => e = .returned (.string ⟨bs.toArray⟩) ∧ Gw 30 p W fq SN w') := hid fun fq W hg => by
        rw [← hbs, ← hSN]
        exact rfind_5 p fq SK l[k] W hg
      have hq : ¬ (9223372036854775807 < acc.length + bs.length) := by omega
      generalize l[k] = X at *
      clear hbs hSN hbl
      clear hrd hgw hlen hlen2
      go_wp2_with (go_at_call 42; refine (HGW.out.call (fun fq hk => HX.out fq wr hk)).mono ?_; rintro e w3 ⟨rfl, hg3⟩; have HG3 := hid hg3; clear hg3)
      exact ⟨⟨k + 1, by omega, by go_num, by rw [HS.out, ← cat_mk], by rw [HS.out]; exact HG3.out⟩, by simp [intOf]; omega⟩
    · obtain rfl : k = n := by omega
      clear hgw
      go_wp2_with fail
      go_ret
      refine ⟨by rw [HEND.out]; rfl, ?_⟩
      rw [← HEND.out]
      obtain ⟨fq, k1, k2, k3⟩ := HGW.out
      have hs1 := HBW.out.size
      exact ⟨fq, k1, ((Fr.of_below HBW.out).mono (fq := fp) (by simp)).trans k2 (fun b hb _ => hb), fun g hg => by
        rcases k3 g hg with h | h
        · exact .inl h
        · right; omega⟩

set_option maxHeartbeats 1000000 in
theorem rdo_6 (p : Nat) (op : Int) (s : ByteArray) (w : World) (hs : s.size ≤ 140737488355328) (h2 : ¬ op = 2) (h3 : ¬ op = 3) (h4 : ¬ op = 4) (h5 : ¬ op = 5) :
    Calls Try.prog 13 #[.pointer (some ⟨p, 0, none⟩), .int .i64 op, .string s] w (SE w [1]) := by
  have HT := hid (fun W => rtaki_list s W hs)
  have HB0 : Hid (∀ W, Calls Try.prog 36 #[.int .i64 0] W (SE W [0])) := hid fun W => rbyte_any 0 W (by decide)
  have HB1 : Hid (∀ W, Calls Try.prog 36 #[.int .i64 1] W (SE W [1])) := hid fun W => rbyte_any 1 W (by decide)
  generalize takL 8 decI (sb s) = r at *
  obtain ⟨l, b⟩ := r
  have HT2 : Hid (∀ W, Calls Try.prog 41 #[.string s] W fun e w' => ∃ A c, e = .returned (.tuple #[.slice A l.length c, .bool b]) ∧ Below W.heap.size W w') := hid fun W => ((HT.out W).mono fun e w' ⟨A, c, h1, _, _, h2, _⟩ => ⟨A, c, h1, h2⟩)
  have e2 : (op == 2) = false := beq_eq_false_iff_ne.2 h2
  have e3 : (op == 3) = false := beq_eq_false_iff_ne.2 h3
  have e4 : (op == 4) = false := beq_eq_false_iff_ne.2 h4
  have e5 : (op == 5) = false := beq_eq_false_iff_ne.2 h5
  have n4 : (op != 4) = true := bne_iff_ne.2 h4
  have n5 : (op != 5) = true := bne_iff_ne.2 h5
  clear HT hs h2 h3 h4 h5
  cases b
  all_goals
    go_enter Try.func13, Try.ntmps13
    go_wp2_with (go_at_call 36; refine (HB0.out _).mono ?_; rintro e w1 ⟨rfl, hb1⟩; clear HB0)
    go_wp2_with (first
      | (go_at_call 41; refine (HT2.out _).mono ?_; rintro e w2 ⟨A, c, rfl, hb2⟩)
      | (go_at_call 36; refine (HB1.out _).mono ?_; rintro e w3 ⟨rfl, hb3⟩))
    go_ret
    exact ⟨rfl, hb1.trans ((hb2.trans (hb3.mono hb2.size)).mono hb1.size)⟩
theorem rdo_2 (p : Nat) (fp : List Nat) (S : Lg) (s : ByteArray) (w : World) (hs : s.size ≤ 140737488355328) (h : Gk 30 p S fp w) :
    Calls Try.prog 13 #[.pointer (some ⟨p, 0, none⟩), .int .i64 2, .string s] w fun e w' => e = .returned (.string ⟨(eachL mka S (takL 9 decA (sb s))).2.toArray⟩) ∧ Gw 30 p w fp (eachL mka S (takL 9 decA (sb s))).1 w' := by
  cases hb : (takL 9 decA (sb s)).2
  · unfold eachL
    rw [if_neg (by rw [hb]; decide)]
    exact (rdo_2_no p s w hs hb).mono fun e w' hh => ⟨hh.1, (Gw.start h).below hh.2⟩
  · unfold eachL
    rw [if_pos hb]
    exact rdo_2_yes p fp S s w hs h _ (Prod.ext rfl hb)
theorem rdo_3 (p : Nat) (fp : List Nat) (S : Lg) (s : ByteArray) (w : World) (hs : s.size ≤ 140737488355328) (h : Gk 30 p S fp w) :
    Calls Try.prog 13 #[.pointer (some ⟨p, 0, none⟩), .int .i64 3, .string s] w fun e w' => e = .returned (.string ⟨(eachL mkt S (takL 32 decT (sb s))).2.toArray⟩) ∧ Gw 30 p w fp (eachL mkt S (takL 32 decT (sb s))).1 w' := by
  cases hb : (takL 32 decT (sb s)).2
  · unfold eachL
    rw [if_neg (by rw [hb]; decide)]
    exact (rdo_3_no p s w hs hb).mono fun e w' hh => ⟨hh.1, (Gw.start h).below hh.2⟩
  · unfold eachL
    rw [if_pos hb]
    exact rdo_3_yes p fp S s w hs h _ (Prod.ext rfl hb)
theorem rdo_4 (p : Nat) (fp : List Nat) (S : Lg) (s : ByteArray) (w : World) (hs : s.size ≤ 140737488355328) (h : Gk 30 p S fp w) :
    Calls Try.prog 13 #[.pointer (some ⟨p, 0, none⟩), .int .i64 4, .string s] w fun e w' => e = .returned (.string ⟨(eachL tela S (takL 8 decI (sb s))).2.toArray⟩) ∧ Gw 30 p w fp (eachL tela S (takL 8 decI (sb s))).1 w' := by
  cases hb : (takL 8 decI (sb s)).2
  · unfold eachL
    rw [if_neg (by rw [hb]; decide)]
    exact (rdo_4_no p s w hs hb).mono fun e w' hh => ⟨hh.1, (Gw.start h).below hh.2⟩
  · unfold eachL
    rw [if_pos hb]
    exact rdo_4_yes p fp S s w hs h _ (Prod.ext rfl hb)
theorem rdo_5 (p : Nat) (fp : List Nat) (S : Lg) (s : ByteArray) (w : World) (hs : s.size ≤ 140737488355328) (h : Gk 30 p S fp w) :
    Calls Try.prog 13 #[.pointer (some ⟨p, 0, none⟩), .int .i64 5, .string s] w fun e w' => e = .returned (.string ⟨(eachL telt S (takL 8 decI (sb s))).2.toArray⟩) ∧ Gw 30 p w fp (eachL telt S (takL 8 decI (sb s))).1 w' := by
  cases hb : (takL 8 decI (sb s)).2
  · unfold eachL
    rw [if_neg (by rw [hb]; decide)]
    exact (rdo_5_no p s w hs hb).mono fun e w' hh => ⟨hh.1, (Gw.start h).below hh.2⟩
  · unfold eachL
    rw [if_pos hb]
    exact rdo_5_yes p fp S s w hs h _ (Prod.ext rfl hb)
theorem rdo_any (p : Nat) (fp : List Nat) (S : Lg) (s : ByteArray) (w : World) (hs : s.size ≤ 140737488355328) (h : Gk 30 p S fp w) (op : Int) :
    Calls Try.prog 13 #[.pointer (some ⟨p, 0, none⟩), .int .i64 op, .string s] w fun e w' => e = .returned (.string ⟨(S.doo op (sb s)).2.toArray⟩) ∧ Gw 30 p w fp (S.doo op (sb s)).1 w' := by
  unfold Lg.doo
  by_cases h2 : op = 2
  · rw [if_pos h2]; subst h2; exact rdo_2 p fp S s w hs h
  rw [if_neg h2]
  by_cases h3 : op = 3
  · rw [if_pos h3]; subst h3; exact rdo_3 p fp S s w hs h
  rw [if_neg h3]
  by_cases h4 : op = 4
  · rw [if_pos h4]; subst h4; exact rdo_4 p fp S s w hs h
  rw [if_neg h4]
  by_cases h5 : op = 5
  · rw [if_pos h5]; subst h5; exact rdo_5 p fp S s w hs h
  rw [if_neg h5]
  exact (rdo_6 p op s w hs h2 h3 h4 h5).mono fun e w' hh => ⟨hh.1, (Gw.start h).below hh.2⟩
end Go.Proofs.Ytbofabmgfkploaa
