/-
  The walk of LedgerAgain.
-/
import Derived.Test.YtbofabmgfkploaaSk
import Derived.Test.YtbofabmgfkploaaPl
namespace Go.Proofs.Ytbofabmgfkploaa
open Go.RowKit
set_option maxRecDepth 10000

theorem playN_wf (XS : List Ab) : (playN XS).WF := by
  unfold playN playS
  have key : ∀ (l : List Ab) (S : Lg), S.WF → (l.foldl plays S).WF := by
    intro l
    induction l with
    | nil => intro S h; exact h
    | cons x r ih =>
      intro S h
      refine ih _ ?_
      unfold plays
      split
      · exact Lg.doo_wf h _ _
      · exact h
  exact key _ _ Lg.nil_wf
theorem playN_good (XS : List Ab) : (playN XS).Good := by
  unfold playN playS
  have key : ∀ (l : List Ab) (S : Lg), S.Good → (l.foldl plays S).Good := by
    intro l
    induction l with
    | nil => intro S h; exact h
    | cons x r ih =>
      intro S h
      refine ih _ ?_
      unfold plays
      split
      · exact Lg.doo_good h _ _
      · exact h
  exact key _ _ Lg.nil_good
section
variable {p : Nat} {fp : List Nat} {S : Lg} {w : World} (h : Gk 63 p S fp w)
include h
theorem pack_gk : Calls Try.prog 18 #[.pointer (some ⟨p, 0, none⟩)] w (SE w S.pack) := by
  obtain ⟨va, vt, rfl, h⟩ := h
  exact pack_any p va vt S w h
theorem accs_gk : Calls Try.prog 15 #[.pointer (some ⟨p, 0, none⟩)] w (LS Ac.cells w S.A) := by
  obtain ⟨va, vt, rfl, h⟩ := h
  exact alla_any p va vt S w h
theorem trs_gk : Calls Try.prog 17 #[.pointer (some ⟨p, 0, none⟩)] w (LS Tr.cells w S.T) := by
  obtain ⟨va, vt, rfl, h⟩ := h
  exact allt_any p va vt S w h
end
/-- int(uint(k) % uint(n)) -/
def modS (c : Int) (n : Nat) : Nat := (c % 18446744073709551616 % (n : Int)).toNat
theorem modS_lt (c : Int) (n : Nat) (h : 0 < n) : modS c n < n := by
  unfold modS
  have h1 : 0 ≤ c % 18446744073709551616 % (n : Int) := Int.emod_nonneg _ (by omega)
  have h2 : c % 18446744073709551616 % (n : Int) < (n : Int) := Int.emod_lt_of_pos _ (by omega)
  omega
theorem u64_small (n : Nat) (h : n ≤ 100) : IntKind.u64.wrap (n : Int) = (n : Int) := by
  simp [IntKind.wrap, IntKind.bits, IntKind.signed]
  omega
theorem mod_code (c : Int) (n : Nat) (h : 0 < n) (hb : n ≤ 100) : wrap64 ((IntKind.u64.wrap c).tmod (n : Int)) = (modS c n : Int) := by
  have h0 : IntKind.u64.wrap c = c % 18446744073709551616 := by simp [IntKind.wrap, IntKind.bits, IntKind.signed]
  have h2 : 0 ≤ c % 18446744073709551616 := by omega
  rw [h0, Int.tmod_eq_emod_of_nonneg h2]
  have h3 : 0 ≤ c % 18446744073709551616 % (n : Int) := Int.emod_nonneg _ (by omega)
  have h4 : c % 18446744073709551616 % (n : Int) < (n : Int) := Int.emod_lt_of_pos _ (by omega)
  unfold modS
  rw [Int.toNat_of_nonneg h3]
  unfold wrap64
  omega
/-- the law's own ledger, and a list apart from it -/
def Ak (w0 : World) (X p : Nat) (S : Lg) (A : Option Addr) (xs : List Value) (w : World) : Prop :=
  ∃ fp, Gk X p S fp w ∧ (∀ b ∈ fp, w0.heap.size ≤ b) ∧ Below w0.heap.size w0 w ∧ Rd w w.heap.size A xs ∧ (xs ≠ [] → ∀ a, A = some a → a.block ∉ fp)
section
variable {w0 w w' : World} {X p : Nat} {S S' : Lg} {A : Option Addr} {xs : List Value}
theorem Sk.list (h : Sk w0 X p S w) (hr : Rd w' w'.heap.size A xs) (hb : Below w.heap.size w w') (hn : NewA w A) : Ak w0 X p S A xs w' := by
  obtain ⟨fp, h1, h2, h3⟩ := h
  refine ⟨fp, h1.below hb, h2, h3.trans (hb.mono h3.size), hr, fun _ a ha hm => ?_⟩
  have := h1.lt _ hm
  have := hn a ha
  omega
theorem Ak.fst (h : Ak w0 X p S A xs w) : Sk w0 X p S w := by
  obtain ⟨fp, h1, h2, h3, _⟩ := h
  exact ⟨fp, h1, h2, h3⟩
theorem Ak.frame (h : Ak w0 X p S A xs w) : Below w0.heap.size w0 w := h.fst.frame
theorem Ak.rd (h : Ak w0 X p S A xs w) : Rd w w.heap.size A xs := by
  obtain ⟨fp, h1, h2, h3, h4, _⟩ := h
  exact h4
theorem Ak.below (h : Ak w0 X p S A xs w) (hb : Below w.heap.size w w') : Ak w0 X p S A xs w' := by
  obtain ⟨fp, h1, h2, h3, h4, h5⟩ := h
  exact ⟨fp, h1.below hb, h2, h3.trans (hb.mono h3.size), (h4.below hb (Nat.le_refl _)).more hb.size, h5⟩
theorem Ak.call {P : Program} {f : FuncId} {args : Array Value} {v : Ending} (h : Ak w0 X p S A xs w) (H : ∀ fp, Gk X p S fp w → Calls P f args w fun e w' => e = v ∧ Gw X p w fp S' w') : Calls P f args w fun e w' => e = v ∧ Ak w0 X p S' A xs w' := by
  obtain ⟨fp, h1, h2, h3, h4, h5⟩ := h
  refine (H fp h1).mono fun e w' hh => ⟨hh.1, ?_⟩
  obtain ⟨fq, k1, k2, k3⟩ := hh.2
  refine ⟨fq, k1, fun b hb => ?_, h3.trans (k2.below h2 h3.size), fun hne => ?_, fun hne a ha hm => ?_⟩
  · rcases k3 b hb with h | h
    · exact h2 b h
    · exact Nat.le_trans h3.size h
  · obtain ⟨g, o, rfl, hg, hc⟩ := (show _ from h4) hne
    exact (Fr.rd' k2 (fun _ => ⟨g, o, rfl, hg, hc⟩) (h5 hne _ rfl)).more k2.size hne
  · rcases k3 _ hm with h | h
    · exact h5 hne a ha h
    · obtain ⟨g, o, e, hg, _⟩ := h4 hne
      rw [ha] at e
      cases e
      simp only at h
      omega
theorem Sk.mk' {fp : List Nat} (hb : Below w0.heap.size w0 w) (hk : Gk X p S fp w') (hf : ∀ b ∈ fp, w.heap.size ≤ b) (hx : Below w.heap.size w w') : Sk w0 X p S w' := ⟨fp, hk, fun b h => Nat.le_trans hb.size (hf b h), hb.trans (hx.mono hb.size)⟩
theorem Ak.pack (h : Ak w0 63 p S A xs w) : Calls Try.prog 18 #[.pointer (some ⟨p, 0, none⟩)] w (SE w S.pack) := by
  obtain ⟨fp, h1, _⟩ := h
  exact pack_gk h1
theorem Sk.pack (h : Sk w0 63 p S w) : Calls Try.prog 18 #[.pointer (some ⟨p, 0, none⟩)] w (SE w S.pack) := by
  obtain ⟨fp, h1, _⟩ := h
  exact pack_gk h1
end
theorem range_of {α : Type} {C : α → List Value} {w : World} {B g o m : Nat} {l : List α} (h : Rd w B (some ⟨g, o, none⟩) (rows C l)) (hC : ∀ x, (C x).length = m) {k : Nat} (hk : k < l.length) : w.rangeAt g (o + k * m) (C l[k]) := h.range hC k hk
theorem shape_of {α : Type} {C : α → List Value} {w : World} {B m : Nat} {A : Option Addr} {l : List α} (h : Rd w B A (rows C l)) (hC : ∀ x, (C x).length = m) (hm : 0 < m) (hl : 0 < l.length) : ∃ g o, A = some ⟨g, o, none⟩ := by
  obtain ⟨g, o, e, _⟩ := h (by
    intro e
    have h1 := rows_len hC l
    rw [e] at h1
    have h2 : 0 < l.length * m := Nat.mul_pos hl hm
    simp at h1
    omega)
  exact ⟨g, o, e⟩

set_option maxHeartbeats 1000000 in
theorem again_00 (A : Option Addr) (n c : Nat) (k : Int) (S : Lg) (w : World) (h0 : S.A.length = 0) (h1 : S.T.length = 0)
    (HPL : Hid (∀ W : World, Below w.heap.size w W → Calls Try.prog 20 #[.slice A n c] W (NG 63 W S (fun p => .pointer (some ⟨p, 0, none⟩))))) :
    Calls Try.prog 9 #[.slice A n c, .int .i64 k] w fun e w' => e = .returned (.bool true) ∧ Below w.heap.size w w' := by
  have HAW := hid awake_any
  have HLA : Hid (∀ p W, Sk w 63 p S W → Calls Try.prog 15 #[.pointer (some ⟨p, 0, none⟩)] W fun e w' => ∃ A c, e = .returned (.slice A S.A.length c) ∧ S.A.length ≤ c ∧ Rd w' w'.heap.size A (rows Ac.cells S.A) ∧ Below W.heap.size W w' ∧ NewA W A) := hid fun p W h => by obtain ⟨fp, h, _⟩ := h; exact accs_gk h
  have HLT : Hid (∀ p W, Sk w 63 p S W → Calls Try.prog 17 #[.pointer (some ⟨p, 0, none⟩)] W fun e w' => ∃ A c, e = .returned (.slice A S.T.length c) ∧ S.T.length ≤ c ∧ Rd w' w'.heap.size A (rows Tr.cells S.T) ∧ Below W.heap.size W w' ∧ NewA W A) := hid fun p W h => by obtain ⟨fp, h, _⟩ := h; exact trs_gk h
  generalize rows Ac.cells S.A = RA at *
  generalize rows Tr.cells S.T = RT at *
  generalize S.A.length = na at *
  generalize S.T.length = nt at *
  subst h0
  subst h1
  go_enter Try.func9, Try.ntmps9
  go_wp2_with (first
    | (go_at_call 10; refine (HAW.out _).mono ?_; rintro e w1 ⟨rfl, hx⟩; have HBB := hid hx; clear hx)
    | (go_at_call 20; refine (HPL.out _ HBB.out).mono ?_; rintro e w2 ⟨p, fp, rfl, hk, hf, hx⟩; have HSK := hid (Sk.mk' HBB.out hk hf hx); clear hx hk hf HPL)
    | (go_at_call 18; refine (Sk.pack HSK.out).mono ?_; rintro e w3 ⟨rfl, hx⟩; replace HSK := hid (HSK.out.below hx); clear hx)
    | (go_at_call 15; refine (HLA.out _ _ HSK.out).mono ?_; rintro e w4 ⟨A1, c1, rfl, hc1, hrd1, hx, -⟩; have HR1 := hid hrd1; have HC1 := hid hc1; replace HSK := hid (HSK.out.below hx); clear hx hrd1 hc1)
    | (go_at_call 17; refine (HLT.out _ _ HSK.out).mono ?_; rintro e w5 ⟨A2, c2, rfl, hc2, hrd2, hx, hnew2⟩; have HAK := hid (HSK.out.list hrd2 hx hnew2); replace HR1 := hid (HR1.out.below hx (Nat.le_refl _)); have HC2 := hid hc2; clear hx hrd2 hnew2 HSK hc2)
    | (go_at_call 18; refine (Ak.pack HAK.out).mono ?_; rintro e w9 ⟨rfl, hx⟩; replace HAK := hid (HAK.out.below hx); clear hx))
  go_ret
  exact ⟨rfl, HAK.out.frame⟩

set_option maxHeartbeats 1000000 in
theorem again_10 (A : Option Addr) (n c : Nat) (k : Int) (S : Lg) (w : World) (hwf : S.WF) (hgd : S.Good) (h0 : 0 < S.A.length) (h1 : S.T.length = 0)
    (HPL : Hid (∀ W : World, Below w.heap.size w W → Calls Try.prog 20 #[.slice A n c] W (NG 63 W S (fun p => .pointer (some ⟨p, 0, none⟩))))) :
    Calls Try.prog 9 #[.slice A n c, .int .i64 k] w fun e w' => e = .returned (.bool true) ∧ Below w.heap.size w w' := by
  have HAW := hid awake_any
  have HIA := modS_lt k S.A.length h0
  have HCA := mod_code k S.A.length h0 (by have := hwf.la; omega)
  have HFA := hwf.oa _ (List.getElem_mem HIA)
  have HPA := hid (fun A B W (hr : Rd W B A (rows Ac.cells [S.A[modS k S.A.length]])) hB => puta_list A [S.A[modS k S.A.length]] 1 1 B W hr rfl (Nat.le_refl _) hB (by intro y hy; rw [List.mem_singleton.1 hy]; exact HFA.1))
  rw [(one_a _ HFA).1, rows1] at HPA
  have HDA := hid (fun p fp W (hg : Gk 63 p S fp W) => do_any p fp S ⟨((askB S.A[modS k S.A.length]).getD []).toArray⟩ W (by rw [← sb_len, sb_mk, (one_a _ HFA).2.2]; omega) hg 2)
  rw [sb_mk, doo_one_a S _ HFA, mka_again hgd HIA] at HDA
  have HDA2 : Hid (∀ p fp W, Gk 63 p S fp W → Calls Try.prog 12 #[.pointer (some ⟨p, 0, none⟩), .int .i64 2, .string ⟨((askB S.A[modS k S.A.length]).getD []).toArray⟩] W fun e w' => e = .returned (.string ⟨#[0, 2]⟩) ∧ Gw 63 p W fp S w') := hid HDA.out
  clear HDA
  have HXA : Hid ((Ac.cells S.A[modS k S.A.length]).length = 4) := hid (Ac.len _)
  have HRNG := hid (fun (g o B : Nat) (W : World) (hr : Rd W B (some ⟨g, o, none⟩) (rows Ac.cells S.A)) => range_of hr Ac.len HIA)
  have HSHA := hid (fun (A : Option Addr) (B : Nat) (W : World) (hr : Rd W B A (rows Ac.cells S.A)) => shape_of hr Ac.len (by decide) h0)
  generalize (askB S.A[modS k S.A.length]).getD [] = ba at *
  generalize Ac.cells S.A[modS k S.A.length] = XA at *
  have HNA := hid (fun W : World => Row.rd (cs := XA) (Row.new W 45 XA.toArray) (Nat.lt_succ_self _))
  have HZA := hid acSize
  obtain ⟨i0, hi, hz0, hz1, hz2⟩ := info_parts acInfo
  have HLA : Hid (∀ p W, Sk w 63 p S W → Calls Try.prog 15 #[.pointer (some ⟨p, 0, none⟩)] W fun e w' => ∃ A c, e = .returned (.slice A S.A.length c) ∧ S.A.length ≤ c ∧ Rd w' w'.heap.size A (rows Ac.cells S.A) ∧ Below W.heap.size W w' ∧ NewA W A) := hid fun p W h => by obtain ⟨fp, h, _⟩ := h; exact accs_gk h
  have HLT : Hid (∀ p W, Sk w 63 p S W → Calls Try.prog 17 #[.pointer (some ⟨p, 0, none⟩)] W fun e w' => ∃ A c, e = .returned (.slice A S.T.length c) ∧ S.T.length ≤ c ∧ Rd w' w'.heap.size A (rows Tr.cells S.T) ∧ Below W.heap.size W w' ∧ NewA W A) := hid fun p W h => by obtain ⟨fp, h, _⟩ := h; exact trs_gk h
  clear HFA
  generalize rows Ac.cells S.A = RA at *
  generalize rows Tr.cells S.T = RT at *
  have hba : S.A.length ≤ 100 := by have := hwf.la; omega
  have hbt : S.T.length ≤ 100 := by have := hwf.lt; omega
  generalize S.A.length = na at *
  generalize S.T.length = nt at *
  generalize modS k na = ia at *
  have hia : (ia : Int) < (na : Int) := by omega
  have hna : (0 : Int) < (na : Int) := by omega
  have hna0 : ¬ na = 0 := by omega
  have huw : IntKind.u64.wrap (na : Int) = (na : Int) := u64_small na (by omega)
  clear hwf hgd
  subst h1
  go_enter Try.func9, Try.ntmps9
  go_wp2_with (first
    | (go_at_call 10; refine (HAW.out _).mono ?_; rintro e w1 ⟨rfl, hx⟩; have HBB := hid hx; clear hx)
    | (go_at_call 20; refine (HPL.out _ HBB.out).mono ?_; rintro e w2 ⟨p, fp, rfl, hk, hf, hx⟩; have HSK := hid (Sk.mk' HBB.out hk hf hx); clear hx hk hf HPL)
    | (go_at_call 18; refine (Sk.pack HSK.out).mono ?_; rintro e w3 ⟨rfl, hx⟩; replace HSK := hid (HSK.out.below hx); clear hx)
    | (go_at_call 15; refine (HLA.out _ _ HSK.out).mono ?_; rintro e w4 ⟨A1, c1, rfl, hc1, hrd1, hx, -⟩; have HR1 := hid hrd1; have HC1 := hid hc1; replace HSK := hid (HSK.out.below hx); clear hx hrd1 hc1; obtain ⟨g1, o1, rfl⟩ := HSHA.out _ _ _ HR1.out)
    | (go_at_call 17; refine (HLT.out _ _ HSK.out).mono ?_; rintro e w5 ⟨A2, c2, rfl, hc2, hrd2, hx, hnew2⟩; have HAK := hid (HSK.out.list hrd2 hx hnew2); replace HR1 := hid (HR1.out.below hx (Nat.le_refl _)); have HC2 := hid hc2; clear hx hrd2 hnew2 HSK hc2)
    | (refine wpList_load_mid rfl 45 (.tmp 35) rfl g1 (o1 + ia * 4) rfl XA _ (HRNG.out _ _ _ _ HR1.out) Try.underlying45 rfl (by rw [HXA.out]; exact HZA.out) ?_)
    | (refine wpl_slice1 rfl 27 45 (.tmp 36) rfl i0 _ 4 Try.underlying27 hi hz0 hz1 (by decide) (by decide) XA rfl HXA.out ?_)
    | (go_at_call 24; refine (HPA.out _ _ _ (HNA.out _) (by simp)).mono ?_; rintro e w6 ⟨rfl, hx0⟩; replace HAK := hid ((HAK.out.below ((Below.refl _ _).alloc (Nat.le_refl _) _)).below hx0); clear hx0 HPA)
    | (go_at_call 12; refine (HAK.out.call (fun fp hk => HDA2.out p fp _ hk)).mono ?_; rintro e w7 ⟨rfl, hak⟩; replace HAK := hid hak; clear hak HDA2)
    | (go_at_call 18; refine (Ak.pack HAK.out).mono ?_; rintro e w9 ⟨rfl, hx⟩; replace HAK := hid (HAK.out.below hx); clear hx))
  go_ret
  exact ⟨rfl, HAK.out.frame⟩

set_option maxHeartbeats 1000000 in
theorem again_11 (A : Option Addr) (n c : Nat) (k : Int) (S : Lg) (w : World) (hwf : S.WF) (hgd : S.Good) (h0 : 0 < S.A.length) (h1 : 0 < S.T.length)
    (HPL : Hid (∀ W : World, Below w.heap.size w W → Calls Try.prog 20 #[.slice A n c] W (NG 63 W S (fun p => .pointer (some ⟨p, 0, none⟩))))) :
    Calls Try.prog 9 #[.slice A n c, .int .i64 k] w fun e w' => e = .returned (.bool true) ∧ Below w.heap.size w w' := by
  have HAW := hid awake_any
  have HIA := modS_lt k S.A.length h0
  have HCA := mod_code k S.A.length h0 (by have := hwf.la; omega)
  have HFA := hwf.oa _ (List.getElem_mem HIA)
  have HPA := hid (fun A B W (hr : Rd W B A (rows Ac.cells [S.A[modS k S.A.length]])) hB => puta_list A [S.A[modS k S.A.length]] 1 1 B W hr rfl (Nat.le_refl _) hB (by intro y hy; rw [List.mem_singleton.1 hy]; exact HFA.1))
  rw [(one_a _ HFA).1, rows1] at HPA
  have HDA := hid (fun p fp W (hg : Gk 63 p S fp W) => do_any p fp S ⟨((askB S.A[modS k S.A.length]).getD []).toArray⟩ W (by rw [← sb_len, sb_mk, (one_a _ HFA).2.2]; omega) hg 2)
  rw [sb_mk, doo_one_a S _ HFA, mka_again hgd HIA] at HDA
  have HDA2 : Hid (∀ p fp W, Gk 63 p S fp W → Calls Try.prog 12 #[.pointer (some ⟨p, 0, none⟩), .int .i64 2, .string ⟨((askB S.A[modS k S.A.length]).getD []).toArray⟩] W fun e w' => e = .returned (.string ⟨#[0, 2]⟩) ∧ Gw 63 p W fp S w') := hid HDA.out
  clear HDA
  have HXA : Hid ((Ac.cells S.A[modS k S.A.length]).length = 4) := hid (Ac.len _)
  have HRNG := hid (fun (g o B : Nat) (W : World) (hr : Rd W B (some ⟨g, o, none⟩) (rows Ac.cells S.A)) => range_of hr Ac.len HIA)
  have HSHA := hid (fun (A : Option Addr) (B : Nat) (W : World) (hr : Rd W B A (rows Ac.cells S.A)) => shape_of hr Ac.len (by decide) h0)
  generalize (askB S.A[modS k S.A.length]).getD [] = ba at *
  generalize Ac.cells S.A[modS k S.A.length] = XA at *
  have HNA := hid (fun W : World => Row.rd (cs := XA) (Row.new W 45 XA.toArray) (Nat.lt_succ_self _))
  have HZA := hid acSize
  obtain ⟨i0, hi, hz0, hz1, hz2⟩ := info_parts acInfo
  have HIT := modS_lt k S.T.length h1
  have HCT := mod_code k S.T.length h1 (by have := hwf.lt; omega)
  have HFT := hwf.ot _ (List.getElem_mem HIT)
  have HPT := hid (fun A B W (hr : Rd W B A (rows Tr.cells [S.T[modS k S.T.length]])) hB => putt_list A [S.T[modS k S.T.length]] 1 1 B W hr rfl (Nat.le_refl _) hB (by intro y hy; rw [List.mem_singleton.1 hy]; exact HFT))
  rw [(one_t _ HFT).1, rows1] at HPT
  have HDT := hid (fun p fp W (hg : Gk 63 p S fp W) => do_any p fp S ⟨(trL S.T[modS k S.T.length]).toArray⟩ W (by rw [← sb_len, sb_mk, trL_len]; omega) hg 3)
  rw [sb_mk, doo_one_t S _ HFT, mkt_again hgd HIT] at HDT
  have HDT2 : Hid (∀ p fp W, Gk 63 p S fp W → Calls Try.prog 12 #[.pointer (some ⟨p, 0, none⟩), .int .i64 3, .string ⟨(trL S.T[modS k S.T.length]).toArray⟩] W fun e w' => e = .returned (.string ⟨#[0, 2]⟩) ∧ Gw 63 p W fp S w') := hid HDT.out
  clear HDT
  have HXT : Hid ((Tr.cells S.T[modS k S.T.length]).length = 4) := hid (Tr.len _)
  have HRNT := hid (fun (g o B : Nat) (W : World) (hr : Rd W B (some ⟨g, o, none⟩) (rows Tr.cells S.T)) => range_of hr Tr.len HIT)
  have HSHT := hid (fun (A : Option Addr) (B : Nat) (W : World) (hr : Rd W B A (rows Tr.cells S.T)) => shape_of hr Tr.len (by decide) h1)
  generalize trL S.T[modS k S.T.length] = bt at *
  generalize Tr.cells S.T[modS k S.T.length] = XT at *
  have HNT := hid (fun W : World => Row.rd (cs := XT) (Row.new W 43 XT.toArray) (Nat.lt_succ_self _))
  have HZT := hid trSize
  obtain ⟨j0, hj, hy0, hy1, hy2⟩ := info_parts trInfo
  have HLA : Hid (∀ p W, Sk w 63 p S W → Calls Try.prog 15 #[.pointer (some ⟨p, 0, none⟩)] W fun e w' => ∃ A c, e = .returned (.slice A S.A.length c) ∧ S.A.length ≤ c ∧ Rd w' w'.heap.size A (rows Ac.cells S.A) ∧ Below W.heap.size W w' ∧ NewA W A) := hid fun p W h => by obtain ⟨fp, h, _⟩ := h; exact accs_gk h
  have HLT : Hid (∀ p W, Sk w 63 p S W → Calls Try.prog 17 #[.pointer (some ⟨p, 0, none⟩)] W fun e w' => ∃ A c, e = .returned (.slice A S.T.length c) ∧ S.T.length ≤ c ∧ Rd w' w'.heap.size A (rows Tr.cells S.T) ∧ Below W.heap.size W w' ∧ NewA W A) := hid fun p W h => by obtain ⟨fp, h, _⟩ := h; exact trs_gk h
  clear HFA HFT
  generalize rows Ac.cells S.A = RA at *
  generalize rows Tr.cells S.T = RT at *
  have hba : S.A.length ≤ 100 := by have := hwf.la; omega
  have hbt : S.T.length ≤ 100 := by have := hwf.lt; omega
  generalize S.A.length = na at *
  generalize S.T.length = nt at *
  generalize modS k na = ia at *
  have hia : (ia : Int) < (na : Int) := by omega
  have hna : (0 : Int) < (na : Int) := by omega
  have hna0 : ¬ na = 0 := by omega
  have huw : IntKind.u64.wrap (na : Int) = (na : Int) := u64_small na (by omega)
  generalize modS k nt = it at *
  have hit : (it : Int) < (nt : Int) := by omega
  have hnt : (0 : Int) < (nt : Int) := by omega
  have hnt0 : ¬ nt = 0 := by omega
  have hut : IntKind.u64.wrap (nt : Int) = (nt : Int) := u64_small nt (by omega)
  clear hwf hgd
  go_enter Try.func9, Try.ntmps9
  go_wp2_with (first
    | (go_at_call 10; refine (HAW.out _).mono ?_; rintro e w1 ⟨rfl, hx⟩; have HBB := hid hx; clear hx)
    | (go_at_call 20; refine (HPL.out _ HBB.out).mono ?_; rintro e w2 ⟨p, fp, rfl, hk, hf, hx⟩; have HSK := hid (Sk.mk' HBB.out hk hf hx); clear hx hk hf HPL)
    | (go_at_call 18; refine (Sk.pack HSK.out).mono ?_; rintro e w3 ⟨rfl, hx⟩; replace HSK := hid (HSK.out.below hx); clear hx)
    | (go_at_call 15; refine (HLA.out _ _ HSK.out).mono ?_; rintro e w4 ⟨A1, c1, rfl, hc1, hrd1, hx, -⟩; have HR1 := hid hrd1; have HC1 := hid hc1; replace HSK := hid (HSK.out.below hx); clear hx hrd1 hc1; obtain ⟨g1, o1, rfl⟩ := HSHA.out _ _ _ HR1.out)
    | (go_at_call 17; refine (HLT.out _ _ HSK.out).mono ?_; rintro e w5 ⟨A2, c2, rfl, hc2, hrd2, hx, hnew2⟩; have HAK := hid (HSK.out.list hrd2 hx hnew2); replace HR1 := hid (HR1.out.below hx (Nat.le_refl _)); have HC2 := hid hc2; clear hx hrd2 hnew2 HSK hc2; obtain ⟨g2, o2, rfl⟩ := HSHT.out _ _ _ HAK.out.rd)
    | (refine wpList_load_mid rfl 45 (.tmp 35) rfl g1 (o1 + ia * 4) rfl XA _ (HRNG.out _ _ _ _ HR1.out) Try.underlying45 rfl (by rw [HXA.out]; exact HZA.out) ?_)
    | (refine wpl_slice1 rfl 27 45 (.tmp 36) rfl i0 _ 4 Try.underlying27 hi hz0 hz1 (by decide) (by decide) XA rfl HXA.out ?_)
    | (go_at_call 24; refine (HPA.out _ _ _ (HNA.out _) (by simp)).mono ?_; rintro e w6 ⟨rfl, hx0⟩; replace HAK := hid ((HAK.out.below ((Below.refl _ _).alloc (Nat.le_refl _) _)).below hx0); clear hx0 HPA)
    | (go_at_call 12; refine (HAK.out.call (fun fp hk => HDA2.out p fp _ hk)).mono ?_; rintro e w7 ⟨rfl, hak⟩; replace HAK := hid hak; clear hak HDA2)
    | (refine wpList_load_mid rfl 43 (.tmp 57) rfl g2 (o2 + it * 4) rfl XT _ (HRNT.out _ _ _ _ HAK.out.rd) Try.underlying43 rfl (by rw [HXT.out]; exact HZT.out) ?_)
    | (refine wpl_slice1 rfl 28 43 (.tmp 58) rfl j0 _ 4 Try.underlying28 hj hy0 hy1 (by decide) (by decide) XT rfl HXT.out ?_)
    | (go_at_call 25; refine (HPT.out _ _ _ (HNT.out _) (by simp)).mono ?_; rintro e w6 ⟨rfl, hx0⟩; replace HAK := hid ((HAK.out.below ((Below.refl _ _).alloc (Nat.le_refl _) _)).below hx0); clear hx0 HPT)
    | (go_at_call 12; refine (HAK.out.call (fun fp hk => HDT2.out p fp _ hk)).mono ?_; rintro e w8 ⟨rfl, hak⟩; replace HAK := hid hak; clear hak HDT2)
    | (go_at_call 18; refine (Ak.pack HAK.out).mono ?_; rintro e w9 ⟨rfl, hx⟩; replace HAK := hid (HAK.out.below hx); clear hx))
  go_ret
  exact ⟨rfl, HAK.out.frame⟩

theorem again_any (A : Option Addr) (XS : List Ab) (n c : Nat) (k : Int) (w : World) (hr : Rd w w.heap.size A (rows Ab.cells XS)) (hn : n = XS.length) (hbig : n ≤ 9223372036854775807) :
    Calls Try.prog 9 #[.slice A n c, .int .i64 k] w fun e w' => e = .returned (.bool true) ∧ Below w.heap.size w w' := by
  have HPL := hid (fun W (hW : Below w.heap.size w W) => played_any A XS n c W ((hr.below hW (Nat.le_refl _)).more hW.size) hn hbig)
  have hwf := playN_wf XS
  have hgd := playN_good XS
  generalize playN XS = S at *
  by_cases h0 : S.A.length = 0
  · have h1 : S.T.length = 0 := by
      cases hT : S.T with
      | nil => rfl
      | cons t r =>
        have := (hgd.et t (by simp [hT])).1
        omega
    exact again_00 A n c k S w h0 h1 HPL
  · by_cases h1 : S.T.length = 0
    · exact again_10 A n c k S w hwf hgd (by omega) h1 HPL
    · exact again_11 A n c k S w hwf hgd (by omega) (by omega) HPL
end Go.Proofs.Ytbofabmgfkploaa
