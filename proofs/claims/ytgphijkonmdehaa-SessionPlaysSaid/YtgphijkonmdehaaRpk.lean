/-
  The walk of the document's Pack.
-/
import Derived.Test.YtgphijkonmdehaaRop
namespace Go.Proofs.Ytgphijkonmdehaa
open Go.RowKit
set_option maxRecDepth 10000

theorem rput_eight (W : World) (n B : Nat) (A : Option Addr) (c : Nat) (hn : U64 n) (hr : Rd W B A []) (hB : B ≤ W.heap.size) :
    Calls Try.prog 45 #[.slice A 0 c, .int .u64 (n : Int), .int .i64 8] W
    fun e w' => ∃ A c, e = .returned (.tuple #[.slice A 8 c, .int .i64 0]) ∧ Rd w' w'.heap.size A (bvs (le n 8)) ∧ Below W.heap.size W w' := by
  have h := rput_any A [] 0 c n B 8 W hr rfl hB (by omega) (hid hn)
  have e : putS [] n 8 = (le n 8, 0) := by
    unfold putS
    rw [if_pos ⟨by omega, by omega, Nat.div_eq_of_lt (by simpa using hn)⟩]
    rfl
  rw [e] at h
  refine h.mono fun e w' hh => ?_
  obtain ⟨A', c', e1, ho, hb⟩ := BE.len hh (le_len _ _)
  obtain ⟨A2, c2, e2, _, _, hrd⟩ := own_shape ho
  cases e2
  exact ⟨A', c', e1, hrd, hb⟩
set_option maxHeartbeats 400000 in
theorem eight_any (n : Nat) (w : World) (hn : U64 n) : Calls Try.prog 32 #[.int .u64 (n : Int)] w (SE w (le n 8)) := by
  have HP := hid (fun W A c B (h1 : Rd W B A []) h2 => rput_eight W n B A c hn h1 h2)
  have HL := hid (le_len 8 n)
  go_enter Try.func32, Try.ntmps32
  go_wp2_with (first
    | (go_at_call 45; refine (HP.out _ _ _ 0 Rd.nil (Nat.zero_le _)).mono ?_; rintro e w1 ⟨A, c, rfl, hrd, hb⟩)
    | (with_reducible refine wpl_str rfl _ 60 9 rfl 5 Try.underlying60 Try.underlying5 Try.underlying9 A 8 c rfl w1.heap.size (le n 8) ?_ (hid hrd) (hid HL.out.symm)))
  go_ret
  exact ⟨rfl, ((Below.refl _ _).alloc (Nat.le_refl _) _).trans (hb.mono (by simp))⟩
/-- bytes of one's own, so many, and no error -/
def BO (w : World) (bs : List UInt8) (n : Nat) (e : Ending) (w' : World) : Prop := ∃ A c, e = .returned (.tuple #[.slice A n c, .int .i64 0]) ∧ w'.ownsRow w.heap.size 5 1 (.slice A n c) n (bvs bs) ∧ Below w.heap.size w w'
theorem rpt_text (A : Option Addr) (bs : List UInt8) (m c B : Nat) (t : ByteArray) (W : World) (hr : Rd W B A (bvs bs)) (hm : m = bs.length) (ht : t.size ≤ 200) (hB : B ≤ W.heap.size) (hl : m ≤ 140737488200000) :
    Calls Try.prog 33 #[.slice A m c, .string t] W (BO W (bs ++ le t.size 2 ++ sb t) (m + 2 + t.size)) := by
  subst hm
  have h := rpt_any A bs bs.length c B t W hr rfl hB hl
  have e : ptS bs (sb t) = (bs ++ le t.size 2 ++ sb t, 0) := by
    unfold ptS
    rw [sb_len, if_neg (by omega)]
  rw [e] at h
  exact h.mono fun e w' hh => BE.len hh (by simp [le_len, sb_len]; omega)
theorem nat_of {z : Int} (h : 0 ≤ z ∧ z ≤ 72057594037927935) : ∃ n : Nat, z = (n : Int) ∧ n ≤ 72057594037927935 := ⟨z.toNat, by omega, by omega⟩
theorem sb_len_cat {s : ByteArray} {bs : List UInt8} {n : Nat} (h : sb s = bs) (hn : s.size = n) : bs.length = n := by rw [← h, sb_len, hn]
/-- a cell of another block than the row that grew -/
theorem cell_far6 {w w' wr : World} {v : Value} {B m n : Nat} {e : TypeId} {xs : List Value} {j : Nat} {u : Value} (hg : Hid (w.grownBy w' v.ownBlock)) (ho : wr.ownsRow B e m v n xs) (hc : w.cell? ⟨wr.heap.size, j, none⟩ = some u) : w'.cell? ⟨wr.heap.size, j, none⟩ = some u := by
  have hlt := World.block_lt_of_cell? w _ hc
  have hne : some wr.heap.size ≠ v.ownBlock := fun e => by
    have := (ho.lt _ e.symm).2
    omega
  exact (World.cell?_of_block (w := w) (a := ⟨wr.heap.size, j, none⟩) (hg.out.block _ hlt hne)).trans hc
set_option maxHeartbeats 8000000 in
theorem rpack_has (p : Nat) (v : Value) (T : List Ss) (w : World) (h : HasT w 29 p v T) : Calls Try.prog 17 #[.pointer (some ⟨p, 0, none⟩)] w (SE w (pack T)) := by
  obtain ⟨i1, hj, hj0, hj1, hj2⟩ := info_parts u8info
  have hw := h.wf.le
  obtain ⟨A, cap, ev, hcap, -⟩ := h.shape
  have HC0 := hid (fun W (hW : Below w.heap.size w W) => show W.cell? ⟨p, 0, none⟩ = some (.slice A T.length cap) from by rw [← ev]; exact (h.below hW).c0)
  have HRW := hid (fun W (hW : Below w.heap.size w W) => show Rd W w.heap.size A (rows Ss.cells T) from by
    obtain ⟨A', c', e', -, hr⟩ := h.shape
    rw [ev] at e'
    simp only [Value.slice.injEq, true_and] at e'
    rw [e'.1]
    exact hr.below hW (Nat.le_refl _))
  have HLE := hid (fun k => packK_le h.wf k)
  have HST := hid (packK_step T)
  have HOK := hid (fun k (hk : k < T.length) => h.wf.ok T[k] (List.getElem_mem hk))
  have HK0 : Hid (packK T 0 = [UInt8.ofNat T.length]) := hid rfl
  have HALL := hid (packK_all T)
  have HZ := hid ssSize
  generalize pack T = bsT at *
  obtain ⟨n, hn⟩ : ∃ n, T.length = n := ⟨_, rfl⟩
  rw [hn] at HK0 HALL HC0 hw hcap
  have HN := hid hn
  have HR1 : Hid (Row (w.alloc (.cells #[.int .u8 (n : Int)] 5)) w.heap.size 5 (bvs [UInt8.ofNat n])) := hid (by
    have e : bvs [UInt8.ofNat n] = [.int .u8 (n : Int)] := by simp [bvs, bv_ofNat]; omega
    rw [e]
    exact Row.new w _ #[.int .u8 (n : Int)])
  have HB1 := hid ((Below.refl w.heap.size w).alloc (Nat.le_refl _) (.cells #[.int .u8 (n : Int)] 5))
  have hc0 := HC0.out w (Below.refl _ _)
  clear h hn ev
  go_enter Try.func17, Try.ntmps17
  go_wp2_with fail
  clear hc0
  go_loopw [3, 4] (fun bv iv wr => ∃ k m : Nat, k ≤ n ∧ m ≤ 1 + k * 234 ∧ Hid (m = (packK T k).length) ∧ iv = .int .i64 ((k : Nat) : Int) ∧ wr.ownsRow w.heap.size 5 1 bv m (bvs (packK T k)) ∧ Below w.heap.size w wr) (fun _ iv _ => n - (intOf iv).toNat)
  case atStart => exact ⟨0, 1, by omega, by omega, hid (by rw [HK0.out]; rfl), rfl, by rw [HK0.out]; exact HR1.out.own (Nat.le_refl _) (le_maxLen (by rw [bvs_len]; show 1 ≤ 281474976710656; omega)), HB1.out⟩
  case round =>
    obtain ⟨k, m, hk, hm, HM, rfl, ho, hbe⟩ := hrel
    have HBE := hid hbe
    have hc0 := HC0.out wr hbe
    obtain ⟨Ab, cb, rfl, hmc, -, hrdb⟩ := own_shape ho
    have HO := hid ho
    have HRB := hid hrdb
    clear hrdb
    have hk0 : (0 : Int) ≤ (k : Int) := by omega
    by_cases hlt : k < n
    · have hkl : k < T.length := by rw [HN.out]; exact hlt
      have hk1 : (k : Int) < (n : Int) := by omega
      have hrd := HRW.out wr hbe
      obtain ⟨ga, oa, rfl⟩ := shape_of hrd Ss.len (by decide) (by omega)
      have hrg := hrd.range Ss.len k hkl
      have hT := HST.out k hkl
      obtain ⟨o1, o2, o3, o4, o5⟩ := HOK.out k hkl
      obtain ⟨x0, e0, b0⟩ := nat_of (z := T[k].c) ⟨by omega, o1.2⟩
      obtain ⟨x1, e1, b1⟩ := nat_of (z := T[k].s) ⟨by omega, o2.2⟩
      obtain ⟨x2, e2, b2⟩ := nat_of o3
      obtain ⟨x3, e3, b3⟩ := nat_of o4
      have hX0 : (Ss.cells T[k])[0]? = some (.int .i64 (x0 : Int)) := by rw [← e0]; rfl
      have hX1 : (Ss.cells T[k])[1]? = some (.int .i64 (x1 : Int)) := by rw [← e1]; rfl
      have hX2 : (Ss.cells T[k])[2]? = some (.int .i64 (x2 : Int)) := by rw [← e2]; rfl
      have hX3 : (Ss.cells T[k])[3]? = some (.int .i64 (x3 : Int)) := by rw [← e3]; rfl
      have hX4 : (Ss.cells T[k])[4]? = some (.string T[k].t) := rfl
      have hSB : ssB T[k] = le x0 8 ++ le x1 8 ++ le x2 8 ++ le x3 8 ++ le T[k].t.size 2 ++ sb T[k].t := by
        unfold ssB
        rw [e0, e1, e2, e3]
        simp only [Int.toNat_natCast]
      rw [hSB] at hT
      have HX0 := hid hX0
      have HX1 := hid hX1
      have HX2 := hid hX2
      have HX3 := hid hX3
      have HX4 := hid hX4
      have HC5 : Hid ((Ss.cells T[k]).length = 5) := hid (Ss.len _)
      have HC1 : Hid ((Ss.cells T[k]).all (·.oneCell') = true) := hid (Ss.one _)
      have HT := hid hT
      clear hX0 hX1 hX2 hX3 hX4 hSB hT e0 e1 e2 e3 o1 o2 o3 o4
      generalize T[k].t = t at *
      generalize Ss.cells T[k] = X at *
      have HTZ := hid o5
      have HE0 := hid (fun W => eight_any x0 W (by unfold U64; omega))
      have HE1 := hid (fun W => eight_any x1 W (by unfold U64; omega))
      have HE2 := hid (fun W => eight_any x2 W (by unfold U64; omega))
      have HE3 := hid (fun W => eight_any x3 W (by unfold U64; omega))
      have HU0 := hid (u64_fit x0 b0)
      have HU1 := hid (u64_fit x1 b1)
      have HU2 := hid (u64_fit x2 b2)
      have HU3 := hid (u64_fit x3 b3)
      have h81 := le_len 8 x0
      have h82 := le_len 8 x1
      have h83 := le_len 8 x2
      have h84 := le_len 8 x3
      generalize le x0 8 = E0 at *
      generalize le x1 8 = E1 at *
      generalize le x2 8 = E2 at *
      generalize le x3 8 = E3 at *
      have HSZ : Hid (sb (⟨E0.toArray⟩ ++ ⟨E1.toArray⟩ ++ ⟨E2.toArray⟩ ++ ⟨E3.toArray⟩ : ByteArray) = E0 ++ E1 ++ E2 ++ E3) := hid (by rw [cat_mk, cat_mk, cat_mk, sb_mk])
      have HSY : Hid ((⟨E0.toArray⟩ ++ ⟨E1.toArray⟩ ++ ⟨E2.toArray⟩ ++ ⟨E3.toArray⟩ : ByteArray).size = 32) := hid (by rw [← sb_len, HSZ.out]; simp only [List.length_append]; omega)
      have HRG := hid hrg
      have hq2 : ¬ (9223372036854775807 < E0.length + E1.length) := by omega
      have hq3 : ¬ (9223372036854775807 < E0.length + E1.length + E2.length) := by omega
      have hq4 : ¬ (9223372036854775807 < E0.length + E1.length + E2.length + E3.length) := by omega
      have hq3' : ¬ (9223372036854775807 < E0.length + (E1.length + E2.length)) := by omega
      have hq4' : ¬ (9223372036854775807 < E0.length + (E1.length + (E2.length + E3.length))) := by omega
      clear h81 h82 h83 h84 hrd hrg ho hbe b0 b1 b2 b3 o5
      go_wp2_with (first
        | (refine wpList_load_mid rfl 37 (.tmp 28) rfl ga (oa + k * 5) rfl X _ HRG.out Try.underlying37 rfl (by rw [HC5.out]; exact HZ.out) ?_)
        | (refine wpl_store_st rfl (.tmp 5) (.tmp 29) rfl HZ.out wr.heap.size ss0.cells X rfl rfl (Row.new _ _ _) ?_ (hid rfl) (hid HC5.out) (hid HC1.out); intro w4 hr4 hg4; have hb4 : Below wr.heap.size wr w4 := ((Below.refl _ _).alloc (Nat.le_refl _) _).trans (below_grown hg4 (Nat.le_refl _) (by simp)); have HB4 := hid hb4; have HR4 := hid hr4; clear hb4 hg4 hr4))
      have HCE := hid (fun W (hW : Kp w4 W) j u (hu : X[j]? = some u) => (HR4.out.below hW HR4.out.lt).at_ j u hu)
      have HCE0 := hid (fun W (hW : Kp w4 W) => HCE.out W hW 0 _ HX0.out)
      have HCE1 := hid (fun W (hW : Kp w4 W) => HCE.out W hW 1 _ HX1.out)
      have HCE2 := hid (fun W (hW : Kp w4 W) => HCE.out W hW 2 _ HX2.out)
      have HCE3 := hid (fun W (hW : Kp w4 W) => HCE.out W hW 3 _ HX3.out)
      refine wp_region_held_drew (S := fun w' => Kp w4 w') (by kernel_rfl) (Kp.refl _).drew (fun hH => ?_)
      refine wpAnyH_take (i := 0) (v := .pointer (some ⟨wr.heap.size, 0, none⟩)) rfl (by kernel_rfl) (by kernel_rfl) (by kernel_rfl) (fun _ _ _ h => h) (Or.inl ⟨by kernel_rfl, fun w' hw' => by clear hw' ; go_simp⟩) hH ?_
      simp only [Act.put]
      refine wpAnyH_take (i := 1) (v := .int .i64 (x0 : Int)) rfl (by kernel_rfl) (by kernel_rfl) (by kernel_rfl) (fun _ _ _ h => h) (Or.inl ⟨by kernel_rfl, fun w' hw' => by have h := HCE0.out w' hw'; go_simp⟩) hH ?_
      simp only [Act.put]
      refine wpAnyH_take (i := 2) (v := .int .u64 (x0 : Int)) rfl (by kernel_rfl) (by kernel_rfl) (by kernel_rfl) (fun _ _ _ h => h) (Or.inl ⟨by kernel_rfl, fun w' hw' => by have h := HU0.out; go_simp⟩) hH ?_
      simp only [Act.put]
      refine wpAnyH_take (i := 4) (v := .pointer (some ⟨wr.heap.size, 1, none⟩)) rfl (by kernel_rfl) (by kernel_rfl) (by kernel_rfl) (fun _ _ _ h => h) (Or.inl ⟨by kernel_rfl, fun w' hw' => by clear hw' ; go_simp⟩) hH ?_
      simp only [Act.put]
      refine wpAnyH_take (i := 5) (v := .int .i64 (x1 : Int)) rfl (by kernel_rfl) (by kernel_rfl) (by kernel_rfl) (fun _ _ _ h => h) (Or.inl ⟨by kernel_rfl, fun w' hw' => by have h := HCE1.out w' hw'; go_simp⟩) hH ?_
      simp only [Act.put]
      refine wpAnyH_take (i := 6) (v := .int .u64 (x1 : Int)) rfl (by kernel_rfl) (by kernel_rfl) (by kernel_rfl) (fun _ _ _ h => h) (Or.inl ⟨by kernel_rfl, fun w' hw' => by have h := HU1.out; go_simp⟩) hH ?_
      simp only [Act.put]
      refine wpAnyH_take (i := 9) (v := .pointer (some ⟨wr.heap.size, 2, none⟩)) rfl (by kernel_rfl) (by kernel_rfl) (by kernel_rfl) (fun _ _ _ h => h) (Or.inl ⟨by kernel_rfl, fun w' hw' => by clear hw' ; go_simp⟩) hH ?_
      simp only [Act.put]
      refine wpAnyH_take (i := 10) (v := .int .i64 (x2 : Int)) rfl (by kernel_rfl) (by kernel_rfl) (by kernel_rfl) (fun _ _ _ h => h) (Or.inl ⟨by kernel_rfl, fun w' hw' => by have h := HCE2.out w' hw'; go_simp⟩) hH ?_
      simp only [Act.put]
      refine wpAnyH_take (i := 11) (v := .int .u64 (x2 : Int)) rfl (by kernel_rfl) (by kernel_rfl) (by kernel_rfl) (fun _ _ _ h => h) (Or.inl ⟨by kernel_rfl, fun w' hw' => by have h := HU2.out; go_simp⟩) hH ?_
      simp only [Act.put]
      refine wpAnyH_take (i := 14) (v := .pointer (some ⟨wr.heap.size, 3, none⟩)) rfl (by kernel_rfl) (by kernel_rfl) (by kernel_rfl) (fun _ _ _ h => h) (Or.inl ⟨by kernel_rfl, fun w' hw' => by clear hw' ; go_simp⟩) hH ?_
      simp only [Act.put]
      refine wpAnyH_take (i := 15) (v := .int .i64 (x3 : Int)) rfl (by kernel_rfl) (by kernel_rfl) (by kernel_rfl) (fun _ _ _ h => h) (Or.inl ⟨by kernel_rfl, fun w' hw' => by have h := HCE3.out w' hw'; go_simp⟩) hH ?_
      simp only [Act.put]
      refine wpAnyH_take (i := 16) (v := .int .u64 (x3 : Int)) rfl (by kernel_rfl) (by kernel_rfl) (by kernel_rfl) (fun _ _ _ h => h) (Or.inl ⟨by kernel_rfl, fun w' hw' => by have h := HU3.out; go_simp⟩) hH ?_
      simp only [Act.put]
      refine wpAnyH_ready (rs := [3]) (by kernel_rfl) (by simp) ?_
      refine AllReadyH.cons rfl (fun K hK => ?_) AllReadyH.nil
      go_simp
      go_at_call 32
      refine (HE0.out _).mono ?_
      rintro e v2 ⟨rfl, hb2⟩
      go_wp2_with fail
      refine hK.out _ _ (Kp.call hb2 hH) (fun hH => ?_)
      clear hK K
      try simp only [Act.put]
      refine wpAnyH_ready (rs := [7]) (by kernel_rfl) (by simp) ?_
      refine AllReadyH.cons rfl (fun K hK => ?_) AllReadyH.nil
      go_simp
      go_at_call 32
      refine (HE1.out _).mono ?_
      rintro e v3 ⟨rfl, hb3⟩
      go_wp2_with fail
      refine hK.out _ _ (Kp.call hb3 hH) (fun hH => ?_)
      clear hK K
      try simp only [Act.put]
      refine wpAnyH_take (i := 8) (v := .string (⟨E0.toArray⟩ ++ ⟨E1.toArray⟩)) rfl (by kernel_rfl) (by kernel_rfl) (by kernel_rfl) (fun _ _ _ h => h) (Or.inl ⟨by kernel_rfl, fun w' hw' => by clear hw' ; go_simp⟩) hH ?_
      simp only [Act.put]
      refine wpAnyH_ready (rs := [12]) (by kernel_rfl) (by simp) ?_
      refine AllReadyH.cons rfl (fun K hK => ?_) AllReadyH.nil
      go_simp
      go_at_call 32
      refine (HE2.out _).mono ?_
      rintro e v4 ⟨rfl, hb4⟩
      go_wp2_with fail
      refine hK.out _ _ (Kp.call hb4 hH) (fun hH => ?_)
      clear hK K
      try simp only [Act.put]
      refine wpAnyH_take (i := 13) (v := .string (⟨E0.toArray⟩ ++ ⟨E1.toArray⟩ ++ ⟨E2.toArray⟩)) rfl (by kernel_rfl) (by kernel_rfl) (by kernel_rfl) (fun _ _ _ h => h) (Or.inl ⟨by kernel_rfl, fun w' hw' => by clear hw' ; go_simp⟩) hH ?_
      simp only [Act.put]
      refine wpAnyH_ready (rs := [17]) (by kernel_rfl) (by simp) ?_
      refine AllReadyH.cons rfl (fun K hK => ?_) AllReadyH.nil
      go_simp
      go_at_call 32
      refine (HE3.out _).mono ?_
      rintro e v5 ⟨rfl, hb5⟩
      go_wp2_with fail
      refine hK.out _ _ (Kp.call hb5 hH) (fun hH => ?_)
      clear hK K
      try simp only [Act.put]
      refine wpAnyH_take (i := 18) (v := .string (⟨E0.toArray⟩ ++ ⟨E1.toArray⟩ ++ ⟨E2.toArray⟩ ++ ⟨E3.toArray⟩)) rfl (by kernel_rfl) (by kernel_rfl) (by kernel_rfl) (fun _ _ _ h => h) (Or.inl ⟨by kernel_rfl, fun w' hw' => by clear hw' ; go_simp⟩) hH ?_
      simp only [Act.put]
      refine wpAnyH_ready (rs := [19]) (by kernel_rfl) (by simp) ?_
      refine AllReadyH.cons rfl (fun K hK => ?_) AllReadyH.nil
      go_simp
      refine hK.out _ _ (hH) (fun hH => ?_)
      clear hK K
      try simp only [Act.put]
      refine wpAnyH_done (by kernel_rfl) ?_ _
      try simp only [Act.put]
      have HB5 : Hid (Below w4.heap.size w4 v5) := hid hH
      have HC4 : Hid (v5.cell? ⟨wr.heap.size, 4, none⟩ = some (.string t)) := hid (HCE.out v5 HB5.out 4 _ HX4.out)
      have HBW : Hid (Below wr.heap.size wr v5) := hid (HB4.out.trans (HB5.out.mono HB4.out.size))
      clear hH
      go_wp2_with (first
        | (with_reducible refine wpl_append_str rfl (.tmp 49) (.tmp 50) 60 9 rfl w.heap.size 5 i1 Try.underlying60 Try.underlying9 hj hj0 hj1 hj2 (.slice Ab m cb) m _ rfl (own_below HO.out HBW.out) (⟨E0.toArray⟩ ++ ⟨E1.toArray⟩ ++ ⟨E2.toArray⟩ ++ ⟨E3.toArray⟩) rfl ?_ (hid (le_maxLen (by rw [HSY.out]; omega))) (hid (by rw [HSY.out]; omega)) (hid (Nat.le_trans HBE.out.size HBW.out.size)); intro v6 w6 hown6 hb6 hg6; rw [HSY.out, HSZ.out, ← bvs_app] at hown6; have h45 : w6.cell? ⟨wr.heap.size, 4, none⟩ = some (.string t) := (cell_far6 hg6 HO.out HC4.out); obtain ⟨A6, c6, rfl, -, -, hrd6⟩ := own_shape hown6; have HRD6 := hid hrd6; have HB6 := hid ((HBE.out.trans (HBW.out.mono HBE.out.size)).trans hb6); clear hrd6 hown6 hb6 hg6)
        | (go_at_call 33; refine (rpt_text A6 (packK T k ++ (E0 ++ E1 ++ E2 ++ E3)) (m + 32) c6 w6.heap.size t _ HRD6.out (by rw [List.length_append, ← HM.out, ← sb_len_cat HSZ.out HSY.out]) HTZ.out (Nat.le_refl _) (by omega)).mono ?_; rintro e w7 ⟨A7, c7, rfl, hown7, hb7⟩; have HO7 := hid hown7; have HB7 := hid hb7; clear hown7 hb7))
      have HTL := HTZ.out
      have hpk : packK T (k + 1) = packK T k ++ (E0 ++ E1 ++ E2 ++ E3) ++ le t.size 2 ++ sb t := by rw [HT.out]; simp only [List.append_assoc]
      exact ⟨⟨k + 1, m + 32 + 2 + t.size, by omega, by omega, hid (by
        have h1 := HO7.out.1
        rw [bvs_len] at h1
        rw [hpk]
        omega), by go_num, by rw [hpk]; exact own_base HO7.out HB6.out.size, HB6.out.trans (HB7.out.mono HB6.out.size)⟩, by simp [intOf]; omega⟩
    · obtain rfl : k = n := by omega
      have hk1 : ¬ (k : Int) < (k : Int) := by omega
      clear hbe ho
      go_wp2_with (with_reducible refine wpl_str rfl _ 60 9 rfl 5 Try.underlying60 Try.underlying5 Try.underlying9 Ab m cb rfl wr.heap.size (packK T k) ?_ (hid HRB.out) (hid HM.out))
      go_ret
      exact ⟨by rw [HALL.out]; rfl, HBE.out⟩
theorem rpack_any (p : Nat) (fp : List Nat) (T : List Ss) (w : World) (h : Gk 29 p T fp w) : Calls Try.prog 17 #[.pointer (some ⟨p, 0, none⟩)] w (SE w (pack T)) := by
  obtain ⟨v, -, h⟩ := h
  exact rpack_has p v T w h
end Go.Proofs.Ytgphijkonmdehaa
