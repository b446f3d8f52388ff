/-
  The walks of the document's Account, Transfer and Open.
-/
import Derived.Test.YtbofabmgfkploaaMka
import Derived.Test.YtbofabmgfkploaaAgain
namespace Go.Proofs.Ytbofabmgfkploaa
open Go.RowKit
set_option maxRecDepth 10000


theorem idxa_no {S : Lg} {id : Nat} (h : ¬ S.fa id < S.A.length) : idxa S.A id = -1 := by unfold idxa; rw [if_neg (by exact h)]
theorem idxa_yes {S : Lg} {id : Nat} (h : S.fa id < S.A.length) : idxa S.A id = (S.fa id : Int) := by unfold idxa; rw [if_pos (by exact h)]; rfl
set_option maxHeartbeats 1000000 in
theorem ra_any (p : Nat) (va vt : Value) (S : Lg) (id : Nat) (w : World) (h : HasG w 30 p va vt S) :
    Calls Try.prog 82 #[.pointer (some ⟨p, 0, none⟩), .int .u64 (id : Int)] w fun e w' => e = .returned (.int .i64 (idxa S.A id)) ∧ w = w' := by
  obtain ⟨A, c, e, hnc, hrd⟩ := h.va_shape
  have hc0 := h.c0
  rw [e] at hc0
  have hbig := h.wf.la
  have HN : Hid (∀ n, n = S.A.length → n = S.A.length) := hid fun _ h => h
  obtain ⟨n, hn⟩ : ∃ n, S.A.length = n := ⟨_, rfl⟩
  rw [hn] at hc0 hnc hbig
  by_cases h0 : n = 0
  · subst h0
    rw [idxa_no (by omega)]
    clear h e hrd hn HN
    go_enter Try.func82, Try.ntmps82
    go_wp2_with fail
    go_loop [5] (fun i => i = .int .i64 0) (fun _ => 0)
    case atStart => rfl
    case round =>
      obtain rfl := hrel
      go_wp2_with fail
      go_ret
      exact ⟨rfl, rfl⟩
  obtain ⟨g, o, rfl⟩ := shape_of hrd Ac.len (by decide) (by omega)
  have HR := hid hrd
  have HNL := hid hn
  have HF : Hid (∀ k, k < S.A.length → at_ Ac.id id S.A = k → idxa S.A id = (k : Int)) := hid fun k hk e => by
    unfold idxa
    rw [e, if_pos hk]
  have HNF : Hid (at_ Ac.id id S.A = S.A.length → idxa S.A id = -1) := hid fun e => by
    unfold idxa
    rw [if_neg (by omega)]
  generalize idxa S.A id = r at *
  clear h e hrd hn HN
  go_enter Try.func82, Try.ntmps82
  go_wp2_with fail
  go_loop [5] (fun i => ∃ k : Nat, k ≤ n ∧ i = .int .i64 (k : Int) ∧ Hid (k ≤ at_ Ac.id id S.A)) (fun i => n - (intOf i).toNat)
  case atStart => exact ⟨0, by omega, rfl, hid (Nat.zero_le _)⟩
  case round =>
    obtain ⟨k, hk, rfl, HK⟩ := hrel
    by_cases hlt : k < n
    · have hkl : k < S.A.length := by rw [HNL.out]; exact hlt
      have hcl : w.cell? ⟨g, o + k * 4, none⟩ = some (.int .u64 (Ac.id (S.A[k]'hkl) : Int)) := range_of HR.out Ac.len hkl 0 _ rfl
      have hi0 : (k : Int) < (n : Int) := by omega
      by_cases he : Ac.id (S.A[k]'hkl) = id
      · have HAT := hid (HF.out k hkl (at_this Ac.id id S.A k HK.out hkl he))
        have ht := eq_nat he
        generalize Ac.id (S.A[k]'hkl) = kid at *
        clear he
        go_wp2_with fail
        go_ret
        exact ⟨by rw [HAT.out]; rfl, rfl⟩
      · have HAT : Hid (k + 1 ≤ at_ Ac.id id S.A) := hid (by
          rcases Nat.lt_or_ge k (at_ Ac.id id S.A) with h | h
          · omega
          · have e : at_ Ac.id id S.A = k := Nat.le_antisymm h HK.out
            have h2 := at_here Ac.id id S.A (by rw [e]; exact hkl)
            simp only [e] at h2
            exact absurd h2 he)
        have ht := ne_nat he
        generalize Ac.id (S.A[k]'hkl) = kid at *
        clear he
        go_wp2_with fail
        exact ⟨⟨k + 1, by omega, by go_num, hid HAT.out⟩, by simp [intOf]; omega⟩
    · obtain rfl : k = n := by omega
      have HAT := hid (HNF.out (by have := HK.out; have := at_le Ac.id id S.A; have := HNL.out; omega))
      go_wp2_with fail
      go_ret
      exact ⟨by rw [HAT.out]; rfl, rfl⟩

theorem idxt_no {S : Lg} {id : Nat} (h : ¬ S.ft id < S.T.length) : idxt S.T id = -1 := by unfold idxt; rw [if_neg (by exact h)]
theorem idxt_yes {S : Lg} {id : Nat} (h : S.ft id < S.T.length) : idxt S.T id = (S.ft id : Int) := by unfold idxt; rw [if_pos (by exact h)]; rfl
set_option maxHeartbeats 1000000 in
theorem rt_any (p : Nat) (va vt : Value) (S : Lg) (id : Nat) (w : World) (h : HasG w 30 p va vt S) :
    Calls Try.prog 83 #[.pointer (some ⟨p, 0, none⟩), .int .u64 (id : Int)] w fun e w' => e = .returned (.int .i64 (idxt S.T id)) ∧ w = w' := by
  obtain ⟨A, c, e, hnc, hrd⟩ := h.vt_shape
  have hc0 := h.c1
  rw [e] at hc0
  have hbig := h.wf.lt
  have HN : Hid (∀ n, n = S.T.length → n = S.T.length) := hid fun _ h => h
  obtain ⟨n, hn⟩ : ∃ n, S.T.length = n := ⟨_, rfl⟩
  rw [hn] at hc0 hnc hbig
  by_cases h0 : n = 0
  · subst h0
    rw [idxt_no (by omega)]
    clear h e hrd hn HN
    go_enter Try.func83, Try.ntmps83
    go_wp2_with fail
    go_loop [5] (fun i => i = .int .i64 0) (fun _ => 0)
    case atStart => rfl
    case round =>
      obtain rfl := hrel
      go_wp2_with fail
      go_ret
      exact ⟨rfl, rfl⟩
  obtain ⟨g, o, rfl⟩ := shape_of hrd Tr.len (by decide) (by omega)
  have HR := hid hrd
  have HNL := hid hn
  have HF : Hid (∀ k, k < S.T.length → at_ Tr.a id S.T = k → idxt S.T id = (k : Int)) := hid fun k hk e => by
    unfold idxt
    rw [e, if_pos hk]
  have HNF : Hid (at_ Tr.a id S.T = S.T.length → idxt S.T id = -1) := hid fun e => by
    unfold idxt
    rw [if_neg (by omega)]
  generalize idxt S.T id = r at *
  clear h e hrd hn HN
  go_enter Try.func83, Try.ntmps83
  go_wp2_with fail
  go_loop [5] (fun i => ∃ k : Nat, k ≤ n ∧ i = .int .i64 (k : Int) ∧ Hid (k ≤ at_ Tr.a id S.T)) (fun i => n - (intOf i).toNat)
  case atStart => exact ⟨0, by omega, rfl, hid (Nat.zero_le _)⟩
  case round =>
    obtain ⟨k, hk, rfl, HK⟩ := hrel
    by_cases hlt : k < n
    · have hkl : k < S.T.length := by rw [HNL.out]; exact hlt
      have hcl : w.cell? ⟨g, o + k * 4, none⟩ = some (.int .u64 (Tr.a (S.T[k]'hkl) : Int)) := range_of HR.out Tr.len hkl 0 _ rfl
      have hi0 : (k : Int) < (n : Int) := by omega
      by_cases he : Tr.a (S.T[k]'hkl) = id
      · have HAT := hid (HF.out k hkl (at_this Tr.a id S.T k HK.out hkl he))
        have ht := eq_nat he
        generalize Tr.a (S.T[k]'hkl) = kid at *
        clear he
        go_wp2_with fail
        go_ret
        exact ⟨by rw [HAT.out]; rfl, rfl⟩
      · have HAT : Hid (k + 1 ≤ at_ Tr.a id S.T) := hid (by
          rcases Nat.lt_or_ge k (at_ Tr.a id S.T) with h | h
          · omega
          · have e : at_ Tr.a id S.T = k := Nat.le_antisymm h HK.out
            have h2 := at_here Tr.a id S.T (by rw [e]; exact hkl)
            simp only [e] at h2
            exact absurd h2 he)
        have ht := ne_nat he
        generalize Tr.a (S.T[k]'hkl) = kid at *
        clear he
        go_wp2_with fail
        exact ⟨⟨k + 1, by omega, by go_num, hid HAT.out⟩, by simp [intOf]; omega⟩
    · obtain rfl : k = n := by omega
      have HAT := hid (HNF.out (by have := HK.out; have := at_le Tr.a id S.T; have := HNL.out; omega))
      go_wp2_with fail
      go_ret
      exact ⟨by rw [HAT.out]; rfl, rfl⟩

section
variable (p : Nat) (va vt : Value) (S : Lg) (id : Nat) (fl : Int) (w : World) (h : HasG w 30 p va vt S)
set_option maxHeartbeats 400000 in
theorem ropen_1 : Calls Try.prog 38 #[.pointer (some ⟨p, 0, none⟩), .agg #[.int .u64 ((0 : Nat) : Int), .int .i64 fl, .int .u64 0, .int .u64 0]] w (VE w (.int .i64 1)) := by
  go_enter Try.func38, Try.ntmps38
  go_wp2_with fail
  go_ret
  exact ⟨rfl, (Below.refl _ _).alloc (Nat.le_refl _) _⟩
include h in
set_option maxHeartbeats 400000 in
theorem ropen_2 (h0 : id ≠ 0) (h1 : S.fa id < S.A.length) : Calls Try.prog 38 #[.pointer (some ⟨p, 0, none⟩), .agg #[.int .u64 (id : Int), .int .i64 fl, .int .u64 0, .int .u64 0]] w (VE w (.int .i64 2)) := by
  have HRW := hid (show Row (w.alloc (.cells #[.int .u64 (id : Int), .int .i64 fl, .int .u64 0, .int .u64 0] 45)) w.heap.size 45 [.int .u64 (id : Int), .int .i64 fl, .int .u64 0, .int .u64 0] from Row.new _ _ _)
  have HH := hid (fun W (hW : Below w.heap.size w W) => ra_any p va vt S id W (h.below hW))
  have hz : ((id : Int) == 0) = false := ne_nat h0
  rw [idxa_yes h1] at HH
  clear h h0 h1
  generalize S.fa id = k at *
  go_enter Try.func38, Try.ntmps38
  go_wp2_with (go_at_call 82; refine (HH.out _ ((Below.refl _ _).alloc (Nat.le_refl _) _)).mono ?_; rintro e w2 ⟨rfl, rfl⟩)
  go_ret
  exact ⟨rfl, (Below.refl _ _).alloc (Nat.le_refl _) _⟩
include h in
set_option maxHeartbeats 400000 in
theorem ropen_3 (h0 : id ≠ 0) (h1 : ¬ S.fa id < S.A.length) (h2 : 1 < fl) : Calls Try.prog 38 #[.pointer (some ⟨p, 0, none⟩), .agg #[.int .u64 (id : Int), .int .i64 fl, .int .u64 0, .int .u64 0]] w (VE w (.int .i64 3)) := by
  have HRW := hid (show Row (w.alloc (.cells #[.int .u64 (id : Int), .int .i64 fl, .int .u64 0, .int .u64 0] 45)) w.heap.size 45 [.int .u64 (id : Int), .int .i64 fl, .int .u64 0, .int .u64 0] from Row.new _ _ _)
  have HH := hid (fun W (hW : Below w.heap.size w W) => ra_any p va vt S id W (h.below hW))
  have hz : ((id : Int) == 0) = false := ne_nat h0
  rw [idxa_no h1] at HH
  clear h h0 h1
  go_enter Try.func38, Try.ntmps38
  go_wp2_with (go_at_call 82; refine (HH.out _ ((Below.refl _ _).alloc (Nat.le_refl _) _)).mono ?_; rintro e w2 ⟨rfl, rfl⟩)
  go_ret
  exact ⟨rfl, (Below.refl _ _).alloc (Nat.le_refl _) _⟩
include h in
set_option maxHeartbeats 400000 in
theorem ropen_4 (h0 : id ≠ 0) (h1 : ¬ S.fa id < S.A.length) (h2 : ¬ 1 < fl) (h3 : S.A.length = 8) : Calls Try.prog 38 #[.pointer (some ⟨p, 0, none⟩), .agg #[.int .u64 (id : Int), .int .i64 fl, .int .u64 0, .int .u64 0]] w (VE w (.int .i64 10)) := by
  have HRW := hid (show Row (w.alloc (.cells #[.int .u64 (id : Int), .int .i64 fl, .int .u64 0, .int .u64 0] 45)) w.heap.size 45 [.int .u64 (id : Int), .int .i64 fl, .int .u64 0, .int .u64 0] from Row.new _ _ _)
  have HH := hid (fun W (hW : Below w.heap.size w W) => ra_any p va vt S id W (h.below hW))
  have hz : ((id : Int) == 0) = false := ne_nat h0
  rw [idxa_no h1] at HH
  obtain ⟨A, c, e, hnc, -⟩ := h.va_shape
  have hc0 := h.c0
  have hlt := h.box.lt
  rw [e, h3] at hc0
  clear h h0 h1 e h3 hnc
  go_enter Try.func38, Try.ntmps38
  go_wp2_with (go_at_call 82; refine (HH.out _ ((Below.refl _ _).alloc (Nat.le_refl _) _)).mono ?_; rintro e w2 ⟨rfl, rfl⟩)
  go_ret
  exact ⟨rfl, (Below.refl _ _).alloc (Nat.le_refl _) _⟩
include h in
set_option maxHeartbeats 1000000 in
theorem ropen_0 (h0 : id ≠ 0) (h1 : ¬ S.fa id < S.A.length) (h2 : ¬ 1 < fl) (h8 : S.A.length + 1 ≤ 8) (hx : (⟨id, fl, 0, 0⟩ : Ac).flat) :
    Calls Try.prog 38 #[.pointer (some ⟨p, 0, none⟩), .agg #[.int .u64 (id : Int), .int .i64 fl, .int .u64 0, .int .u64 0]] w fun e w' => e = .returned (.int .i64 0) ∧ Gw 30 p w (fpG p va vt) ⟨S.A ++ [⟨id, fl, 0, 0⟩], S.T⟩ w' := by
  have HRW := hid (show Row (w.alloc (.cells #[.int .u64 (id : Int), .int .i64 fl, .int .u64 0, .int .u64 0] 45)) w.heap.size 45 [.int .u64 (id : Int), .int .i64 fl, .int .u64 0, .int .u64 0] from Row.new _ _ _)
  have HH := hid (fun W (hW : Below w.heap.size w W) => ra_any p va vt S id W (h.below hW))
  have hz : ((id : Int) == 0) = false := ne_nat h0
  rw [idxa_no h1] at HH
  have HG := hid h
  obtain ⟨A, c, e, hnc, -⟩ := h.va_shape
  have hc0 := h.c0
  have hlt := h.box.lt
  obtain ⟨n, hn⟩ : ∃ n, S.A.length = n := ⟨_, rfl⟩
  have HCN := hid hn
  have hc0' := hc0
  rw [e, hn] at hc0
  have hn8 : S.A.length ≤ 8 := by omega
  have hn7 : ¬ (8 : Int) ≤ (n : Int) := by omega
  have HLW := hid h.lt
  have HROOM := hid h8
  have HXN0 := hid hx
  have cs_one : ∀ u ∈ ([.int .u64 (id : Int), .int .i64 fl, .int .u64 0, .int .u64 0] : List Value), u.oneCell' = true := cs_one4 rfl rfl rfl rfl
  obtain ⟨XN, hXN⟩ : ∃ XN : Ac, XN = ⟨id, fl, 0, 0⟩ := ⟨_, rfl⟩
  have HXN : Hid XN.flat := hid (by rw [hXN]; exact hx)
  rw [← hXN]
  have HEX : Hid (XN.cells = [.int .u64 (id : Int), .int .i64 fl, .int .u64 0, .int .u64 0]) := hid (by rw [hXN]; rfl)
  have HEV := hid e
  clear h h0 h1 h8 hx hXN hn HXN0 hc0' e
  go_enter Try.func38, Try.ntmps38
  go_wp2_with (go_at_call 82; refine (HH.out _ ((Below.refl _ _).alloc (Nat.le_refl _) _)).mono ?_; rintro e w2 ⟨rfl, rfl⟩)
  have HB0 : Hid (Below w.heap.size w (w.alloc (.cells #[.int .u64 (id : Int), .int .i64 fl, .int .u64 0, .int .u64 0] 45))) := hid ((Below.refl _ _).alloc (Nat.le_refl _) _)
  have HRX := hid HRW.out
  generalize (w.alloc (.cells #[.int .u64 (id : Int), .int .i64 fl, .int .u64 0, .int .u64 0] 45)) = w3 at *
  have h3 := hid (HG.out.below HB0.out)
  have HRG : Hid (w3.drew.rangeAt w.heap.size 0 [.int .u64 (id : Int), .int .i64 fl, .int .u64 0, .int .u64 0]) := hid fun j v hv => by rw [Nat.zero_add]; exact HRX.out.at_ j v hv
  have HNE : Hid (∀ b ∈ fpG p va vt, b ≠ w.heap.size) := hid fun b hb => by have := HLW.out b hb; omega
  have HNEP : Hid (p ≠ w.heap.size) := hid (HNE.out p (by simp [fpG]))
  have hc3 := h3.out.c0
  have HC := hid hc3
  have HLT := hid h3.out.box.lt
  clear hc0 hlt HH
  have HNP : Hid ((⟨p, 0, none⟩ : Addr).block ≠ w.heap.size) := HNEP
  refine wp_region_held_drew (S := fun w' => w'.rangeAt w.heap.size 0 [.int .u64 (id : Int), .int .i64 fl, .int .u64 0, .int .u64 0]) (by kernel_rfl) HRG.out (fun hH => ?_)
  refine wpAnyH_take (i := 0) (v := .pointer (some ⟨p, 0, none⟩)) rfl (by kernel_rfl) (by kernel_rfl) (by kernel_rfl) (fun _ _ _ h => h) (Or.inl ⟨by rfl, fun w' hw' => by clear hw' ; go_simp⟩) hH ?_
  simp only [Act.put]
  refine wpAnyH_take (i := 1) (v := .pointer (some ⟨p, 0, none⟩)) rfl (by kernel_rfl) (by kernel_rfl) (by kernel_rfl) (fun _ _ _ h => h) (Or.inl ⟨by rfl, fun w' hw' => by clear hw' ; go_simp⟩) hH ?_
  simp only [Act.put]
  refine wpAnyH_take (i := 2) (v := .pointer (some ⟨p, 0, none⟩)) rfl (by kernel_rfl) (by kernel_rfl) (by kernel_rfl) (fun _ _ _ h => h) (Or.inl ⟨by rfl, fun w' hw' => by clear hw' ; go_simp⟩) hH ?_
  simp only [Act.put]
  refine wpAnyH_take (i := 3) (v := .pointer (some ⟨p, 0, none⟩)) rfl (by kernel_rfl) (by kernel_rfl) (by kernel_rfl) (fun _ _ _ h => h) (Or.inl ⟨by rfl, fun w' hw' => by clear hw' ; go_simp⟩) hH ?_
  simp only [Act.put]
  refine wpAnyH_take (i := 5) (v := .pointer (some ⟨w.heap.size, 0, none⟩)) rfl (by kernel_rfl) (by kernel_rfl) (by kernel_rfl) (fun _ _ _ h => h) (Or.inl ⟨by rfl, fun w' hw' => by clear hw' ; go_simp⟩) hH ?_
  simp only [Act.put]
  refine wpAnyH_take (i := 6) (v := .int .u64 (id : Int)) rfl (by kernel_rfl) (by kernel_rfl) (by kernel_rfl) (fun _ _ _ h => h) (Or.inl ⟨by rfl, fun w' hw' => by have h := hw' 0 _ rfl; go_simp⟩) hH ?_
  simp only [Act.put]
  refine wpAnyH_take (i := 7) (v := .pointer (some ⟨w.heap.size, 1, none⟩)) rfl (by kernel_rfl) (by kernel_rfl) (by kernel_rfl) (fun _ _ _ h => h) (Or.inl ⟨by rfl, fun w' hw' => by clear hw' ; go_simp⟩) hH ?_
  simp only [Act.put]
  refine wpAnyH_take (i := 8) (v := .int .i64 fl) rfl (by kernel_rfl) (by kernel_rfl) (by kernel_rfl) (fun _ _ _ h => h) (Or.inl ⟨by rfl, fun w' hw' => by have h := hw' 1 _ rfl; go_simp⟩) hH ?_
  simp only [Act.put]
  refine wpAnyH_take (i := 9) (v := .agg ([.int .u64 (id : Int), .int .i64 fl, .int .u64 0, .int .u64 0]).toArray) rfl (by kernel_rfl) (by kernel_rfl) (by kernel_rfl) (fun _ _ _ h => h) (Or.inl ⟨by rfl, fun w' hw' => by clear hw' ; go_simp⟩) hH ?_
  simp only [Act.put]
  obtain ⟨i0, hi, hz0, hz1, hz2⟩ := info_parts acInfo
  have hnews : Hid (∀ j u, ([.int .u64 (id : Int), .int .i64 fl, .int .u64 0, .int .u64 0])[j]? = some u → ((w3).drew.alloc (.cells ([.int .u64 (id : Int), .int .i64 fl, .int .u64 0, .int .u64 0]).toArray 45)).cell? ((⟨(w3).heap.size, 0, none⟩ : Addr).add j) = some u) := hid (by
    have := World.news_of_block (heap_alloc_new (w3).drew (.cells ([.int .u64 (id : Int), .int .i64 fl, .int .u64 0, .int .u64 0]).toArray 45))
    simpa using this)
  refine wpAnyH_ready (rs := [4, 10]) (by kernel_rfl) (by simp) ?_
  refine AllReadyH.cons rfl (fun K hK => ?_) (AllReadyH.cons rfl (fun K hK => ?_) AllReadyH.nil)
  · go_simp
    refine hK.out _ _ hH (fun hH => ?_)
    clear hK K
    refine wpAnyH_ready (rs := [10]) (by kernel_rfl) (by simp) ?_
    refine AllReadyH.cons rfl (fun K hK => ?_) AllReadyH.nil
    rw [if_pos (by rfl)]
    refine wp_slice1 27 45 (.tmp 31) rfl i0 _ 4 Try.underlying27 hi hz0 hz1 (by decide) (by decide) [.int .u64 (id : Int), .int .i64 fl, .int .u64 0, .int .u64 0] (by kernel_rfl) rfl ?_
    simp only [Act.put]
    refine hK.out _ _ (World.rangeAt_alloc hH _) (fun hH => ?_)
    clear hK K
    refine wpAnyH_ready (rs := [11]) (by kernel_rfl) (by simp) ?_
    refine AllReadyH.cons rfl (fun K hK => ?_) AllReadyH.nil
    refine step_append_lies _ rfl (.tmp 26) (.tmp 32) 27 rfl 0 45 i0 _ 4 32 Try.underlying27 hi hz0 hz1 hz2 rfl (by decide) va S.A.length _ (by kernel_rfl) ((h3.out.accs.drew).alloc _) ⟨w3.heap.size, 0, none⟩ 1 1 [.int .u64 (id : Int), .int .i64 fl, .int .u64 0, .int .u64 0] (by kernel_rfl) rfl hnews.out cs_one (by decide) (le_maxLen (by omega)) (by omega) (Nat.zero_le _) (w3.heap.size + 1) (by simp) ?_
    intro g cap w4 ho4 hg4 hat hlt4
    have HAP := hid (app_factsa h3.out HRX.out HNE.out hg4)
    have hH4 := HAP.out.2.2
    simp only [Act.put]
    refine hK.out _ _ hH4 (fun hH => ?_)
    clear hK K hH4
    refine wpAnyH_take (i := 12) (v := .pointer (some ⟨p, 0, none⟩)) rfl (by kernel_rfl) (by kernel_rfl) (by kernel_rfl) (fun _ _ _ h => h) (Or.inl ⟨by rfl, fun w' hw' => by clear hw' ; go_simp⟩) hH ?_
    simp only [Act.put]
    refine wpAnyH_take (i := 13) (v := .pointer (some ⟨p, 0, none⟩)) rfl (by kernel_rfl) (by kernel_rfl) (by kernel_rfl) (fun _ _ _ h => h) (Or.inl ⟨by rfl, fun w' hw' => by clear hw' ; go_simp⟩) hH ?_
    simp only [Act.put]
    have c4 := HAP.out.1.at_ 0 _ rfl
    have f4 := HAP.out.1.frozen 0
    have HO4 := hid ho4
    have HAT := hid hat
    clear ho4 hat hg4
    refine wpAnyH_ready (rs := [14]) (by kernel_rfl) (by simp) ?_
    refine AllReadyH.cons rfl (fun K hK => ?_) AllReadyH.nil
    go_simp
    refine hK.out _ _ (fun j v hv => (World.cell?_setCell_far _ _ _ _ HNP.out).trans (hH j v hv)) (fun hH => ?_)
    clear hK K hH
    refine wpAnyH_done (by kernel_rfl) ?_ _
    try simp only [Act.put]
    have HM := hid (h3.out.moreA (X := 30) (x := XN) HAP.out.2.1 (by have h := HO4.out; rw [← HEX.out] at h; exact h) (vend HAT.out) HROOM.out HXN.out)
    clear c4 f4
    generalize (w4.setCell ⟨p, 0, none⟩ (.slice (some ⟨g, 0, none⟩) (S.A.length + 1) cap)) = w5 at *
    go_wp2_with fail
    go_ret
    refine ⟨rfl, ⟨fpG p (.slice (some ⟨g, 0, none⟩) (S.A.length + 1) cap) vt, ⟨_, _, rfl, HM.out.1⟩, ?_, ?_⟩⟩
    · exact ((Fr.of_below HB0.out).mono (fq := fpG p va vt) (by simp)).trans HM.out.2.1 (by intro b hb _; exact hb)
    · intro b hb
      rcases HM.out.2.2 b hb with h | h
      · exact .inl h
      · have := HB0.out.size
        right; omega
  · rw [if_pos (by rfl)]
    refine wp_slice1 27 45 (.tmp 31) rfl i0 _ 4 Try.underlying27 hi hz0 hz1 (by decide) (by decide) [.int .u64 (id : Int), .int .i64 fl, .int .u64 0, .int .u64 0] (by kernel_rfl) rfl ?_
    simp only [Act.put]
    refine hK.out _ _ (World.rangeAt_alloc hH _) (fun hH => ?_)
    clear hK K
    have c32 : ((w3).alloc (.cells ([.int .u64 (id : Int), .int .i64 fl, .int .u64 0, .int .u64 0]).toArray 45)).cell? ⟨p, 0, none⟩ = some va := (World.cell?_alloc_lt _ _ _ HLT.out).trans HC.out
    refine wpAnyH_ready (rs := [4]) (by kernel_rfl) (by simp) ?_
    refine AllReadyH.cons rfl (fun K hK => ?_) AllReadyH.nil
    go_simp
    refine hK.out _ _ hH (fun hH => ?_)
    clear hK K c32
    refine wpAnyH_ready (rs := [11]) (by kernel_rfl) (by simp) ?_
    refine AllReadyH.cons rfl (fun K hK => ?_) AllReadyH.nil
    refine step_append_lies _ rfl (.tmp 26) (.tmp 32) 27 rfl 0 45 i0 _ 4 32 Try.underlying27 hi hz0 hz1 hz2 rfl (by decide) va S.A.length _ (by kernel_rfl) ((h3.out.accs.drew).alloc _) ⟨w3.heap.size, 0, none⟩ 1 1 [.int .u64 (id : Int), .int .i64 fl, .int .u64 0, .int .u64 0] (by kernel_rfl) rfl hnews.out cs_one (by decide) (le_maxLen (by omega)) (by omega) (Nat.zero_le _) (w3.heap.size + 1) (by simp) ?_
    intro g cap w4 ho4 hg4 hat hlt4
    have HAP := hid (app_factsa h3.out HRX.out HNE.out hg4)
    have hH4 := HAP.out.2.2
    simp only [Act.put]
    refine hK.out _ _ hH4 (fun hH => ?_)
    clear hK K hH4
    refine wpAnyH_take (i := 12) (v := .pointer (some ⟨p, 0, none⟩)) rfl (by kernel_rfl) (by kernel_rfl) (by kernel_rfl) (fun _ _ _ h => h) (Or.inl ⟨by rfl, fun w' hw' => by clear hw' ; go_simp⟩) hH ?_
    simp only [Act.put]
    refine wpAnyH_take (i := 13) (v := .pointer (some ⟨p, 0, none⟩)) rfl (by kernel_rfl) (by kernel_rfl) (by kernel_rfl) (fun _ _ _ h => h) (Or.inl ⟨by rfl, fun w' hw' => by clear hw' ; go_simp⟩) hH ?_
    simp only [Act.put]
    have c4 := HAP.out.1.at_ 0 _ rfl
    have f4 := HAP.out.1.frozen 0
    have HO4 := hid ho4
    have HAT := hid hat
    clear ho4 hat hg4
    refine wpAnyH_ready (rs := [14]) (by kernel_rfl) (by simp) ?_
    refine AllReadyH.cons rfl (fun K hK => ?_) AllReadyH.nil
    go_simp
    refine hK.out _ _ (fun j v hv => (World.cell?_setCell_far _ _ _ _ HNP.out).trans (hH j v hv)) (fun hH => ?_)
    clear hK K hH
    refine wpAnyH_done (by kernel_rfl) ?_ _
    try simp only [Act.put]
    have HM := hid (h3.out.moreA (X := 30) (x := XN) HAP.out.2.1 (by have h := HO4.out; rw [← HEX.out] at h; exact h) (vend HAT.out) HROOM.out HXN.out)
    clear c4 f4
    generalize (w4.setCell ⟨p, 0, none⟩ (.slice (some ⟨g, 0, none⟩) (S.A.length + 1) cap)) = w5 at *
    go_wp2_with fail
    go_ret
    refine ⟨rfl, ⟨fpG p (.slice (some ⟨g, 0, none⟩) (S.A.length + 1) cap) vt, ⟨_, _, rfl, HM.out.1⟩, ?_, ?_⟩⟩
    · exact ((Fr.of_below HB0.out).mono (fq := fpG p va vt) (by simp)).trans HM.out.2.1 (by intro b hb _; exact hb)
    · intro b hb
      rcases HM.out.2.2 b hb with h | h
      · exact .inl h
      · have := HB0.out.size
        right; omega
end
theorem ropen_any (p : Nat) (fp : List Nat) (S : Lg) (x : Ac) (w : World) (h : Gk 30 p S fp w) (hx : x.flat) (hd : x.deb = 0) (hc : x.cre = 0) :
    Calls Try.prog 38 #[.pointer (some ⟨p, 0, none⟩), .agg x.cells.toArray] w fun e w' => e = .returned (.int .i64 (S.ja x : Int)) ∧ Gw 30 p w fp (S.opn x) w' := by
  have hG := h
  obtain ⟨va, vt, rfl, h⟩ := h
  obtain ⟨id, fl, db, cr⟩ := x
  simp only at hd hc
  subst hd hc
  have look : ∀ k, S.ja ⟨id, fl, 0, 0⟩ = k → k ≠ 0 → (S.opn ⟨id, fl, 0, 0⟩) = S := fun k hk h0 => by
    unfold Lg.opn
    rw [if_neg (by rw [hk]; exact h0)]
  show Calls Try.prog 38 #[.pointer (some ⟨p, 0, none⟩), .agg #[.int .u64 (id : Int), .int .i64 fl, .int .u64 0, .int .u64 0]] w _
  by_cases h0 : id = 0
  · have e := ja_1 S id fl 0 0 h0
    rw [look _ e (by decide), e]
    subst h0
    exact (ropen_1 p fl w).mono fun e w' hh => ⟨hh.1, (Gw.start hG).below hh.2⟩
  by_cases h1 : S.fa id < S.A.length
  · have e := ja_2 S id fl 0 0 h0 h1
    rw [look _ e (by decide), e]
    exact (ropen_2 p va vt S id fl w h h0 h1).mono fun e w' hh => ⟨hh.1, (Gw.start hG).below hh.2⟩
  by_cases h2 : 1 < fl
  · have e := ja_3 S id fl 0 0 h0 h1 h2
    rw [look _ e (by decide), e]
    exact (ropen_3 p va vt S id fl w h h0 h1 h2).mono fun e w' hh => ⟨hh.1, (Gw.start hG).below hh.2⟩
  by_cases h3 : S.A.length = 8
  · have e := ja_10 S id fl 0 0 h0 h1 h2 h3
    rw [look _ e (by decide), e]
    exact (ropen_4 p va vt S id fl w h h0 h1 h2 h3).mono fun e w' hh => ⟨hh.1, (Gw.start hG).below hh.2⟩
  · have e := ja_0 S id fl 0 0 h0 h1 h2 h3
    have e2 : S.opn ⟨id, fl, 0, 0⟩ = ⟨S.A ++ [⟨id, fl, 0, 0⟩], S.T⟩ := by unfold Lg.opn; rw [if_pos e]
    rw [e, e2]
    exact ropen_0 p va vt S id fl w h h0 h1 h2 (by have := h.wf.la; omega) hx
end Go.Proofs.Ytbofabmgfkploaa
