/-
  The walk of the document's Pack.
-/
import Derived.Test.YtgednnjmcjhfmaaGreatDoorM20
import Derived.Test.YtgednnjmcjhfmaaGreatDoorM02
import Derived.Test.YtgednnjmcjhfmaaGreatDoorM19
import Derived.Test.YtgednnjmcjhfmaaGreatDoorM18
namespace Go.Proofs.YtgednnjmcjhfmaaGreatDoor
open Go.RowKit
set_option maxRecDepth 10000
set_option maxHeartbeats 80000000
/-- bytes of one's own, so many, and no error -/
def BO (w : World) (bs : List UInt8) (n : Nat) (e : Ending) (w' : World) : Prop := ∃ A c, e = .returned (.tuple #[.slice A n c, .int .i64 0]) ∧ w'.ownsRow w.heap.size 5 1 (.slice A n c) n (bvs bs) ∧ Below w.heap.size w w'
theorem rpt_text (A : Option Addr) (bs : List UInt8) (m c B : Nat) (t : ByteArray) (W : World) (hr : Rd W B A (bvs bs)) (hm : m = bs.length) (ht : t.size ≤ 200) (hB : B ≤ W.heap.size) (hl : m ≤ 140737488200000) :
  Calls Tryz.prog 46 #[.slice A m c, .string t] W (BO W (bs ++ le t.size 2 ++ sb t) (m + 2 + t.size)) := by
 subst hm
 have h := rpt_any A bs bs.length c B t W hr rfl hB hl
 have e : ptS bs (sb t) = (bs ++ le t.size 2 ++ sb t, 0) := by
  unfold ptS
  rw [sb_len, if_neg (by omega)]
 rw [e] at h
 exact h.mono fun e w' hh => BE.len hh (by simp [le_len, sb_len]; omega)
theorem nat_of {z : Int} (h : 0 ≤ z ∧ z ≤ 72057594037927935) : ∃ n : Nat, z = (n : Int) ∧ n ≤ 72057594037927935 := ⟨z.toNat, by omega, by omega⟩
theorem sb_len_cat {s : ByteArray} {bs : List UInt8} {n : Nat} (h : sb s = bs) (hn : s.size = n) : bs.length = n := by rw [← h, sb_len, hn]
/-- a cell of another block than the row that grew -/
theorem cell_far6 {w w' wr : World} {v : Value} {B m n : Nat} {e : TypeId} {xs : List Value} {j : Nat} {u : Value} (hg : Hid (w.grownBy w' v.ownBlock)) (ho : wr.ownsRow B e m v n xs) (hc : w.cell? ⟨wr.heap.size, j, none⟩ = some u) : w'.cell? ⟨wr.heap.size, j, none⟩ = some u := by
 have hlt := World.block_lt_of_cell? w _ hc
 have hne : some wr.heap.size ≠ v.ownBlock := fun e => by
  have := (ho.lt _ e.symm).2
  omega
 exact (World.cell?_of_block (w := w) (a := ⟨wr.heap.size, j, none⟩) (hg.out.block _ hlt hne)).trans hc
theorem rpack_has (p : Nat) (v : Value) (T : List Ss) (w : World) (h : HasT w 51 p v T) : Calls Tryz.prog 47 #[.pointer (some ⟨p, 0, none⟩)] w (SE w (pack T)) := by
 obtain ⟨i1, hj, hj0, hj1, hj2⟩ := info_parts u8info
 have hw := h.wf.le
 obtain ⟨A, cap, ev, hcap, -⟩ := h.shape
 have HC0 := hid (fun W (hW : Below w.heap.size w W) => show W.cell? ⟨p, 0, none⟩ = some (.slice A T.length cap) from by rw [← ev]; exact (h.below hW).c0)
 have HRW := hid (fun W (hW : Below w.heap.size w W) => show Rd W w.heap.size A (rows Ss.cells T) from by
  obtain ⟨A', c', e', -, hr⟩ := h.shape
  rw [ev] at e'
  simp only [Value.slice.injEq, true_and] at e'
  rw [e'.1]
  exact hr.below hW (Nat.le_refl _))
 have HLE := hid (fun k => packK_le h.wf k)
 have HST := hid (packK_step T)
 have HOK := hid (fun k (hk : k < T.length) => h.wf.ok T[k] (List.getElem_mem hk))
 have HK0 : Hid (packK T 0 = [UInt8.ofNat T.length]) := hid rfl
 have HALL := hid (packK_all T)
 have HZ := hid ssSize
 generalize pack T = bsT at *
 obtain ⟨n, hn⟩ : ∃ n, T.length = n := ⟨_, rfl⟩
 rw [hn] at HK0 HALL HC0 hw hcap
 have HN := hid hn
 have HR1 : Hid (Row (w.alloc (.cells #[.int .u8 (n : Int)] 5)) w.heap.size 5 (bvs [UInt8.ofNat n])) := hid (by
  have e : bvs [UInt8.ofNat n] = [.int .u8 (n : Int)] := by simp [bvs, bv_ofNat]; omega
  rw [e]
  exact Row.new w _ #[.int .u8 (n : Int)])
 have HB1 := hid ((Below.refl w.heap.size w).alloc (Nat.le_refl _) (.cells #[.int .u8 (n : Int)] 5))
 have hc0 := HC0.out w (Below.refl _ _)
 clear h hn ev
 go_enter Tryz.func47, Tryz.ntmps47
 go_wp2_with fail
 clear hc0
 go_loopw [3, 4] (fun bv iv wr => ∃ k m : Nat, k ≤ n ∧ m ≤ 1 + k * 234 ∧ Hid (m = (packK T k).length) ∧ iv = .int .i64 ((k : Nat) : Int) ∧ wr.ownsRow w.heap.size 5 1 bv m (bvs (packK T k)) ∧ Below w.heap.size w wr) (fun _ iv _ => n - (intOf iv).toNat)
 case atStart => exact ⟨0, 1, by omega, by omega, hid (by rw [HK0.out]; rfl), rfl, by rw [HK0.out]; exact HR1.out.own (Nat.le_refl _) (le_maxLen (by rw [bvs_len]; show 1 ≤ 281474976710656; omega)), HB1.out⟩
 case round =>
  obtain ⟨k, m, hk, hm, HM, rfl, ho, hbe⟩ := hrel
  have HBE := hid hbe
  have hc0 := HC0.out wr hbe
  obtain ⟨Ab8, cb, rfl, hmc, -, hrdb⟩ := own_shape ho
  have HO := hid ho
  have HRB := hid hrdb
  clear hrdb
  have hk0 : (0 : Int) ≤ (k : Int) := by omega
  by_cases hlt : k < n
  ·
   have hkl : k < T.length := by rw [HN.out]; exact hlt
   have hk1 : (k : Int) < (n : Int) := by omega
   have hrd := HRW.out wr hbe
   obtain ⟨ga, oa, rfl⟩ := shape_of hrd Ss.len (by decide) (by omega)
   have hrg := hrd.range Ss.len k hkl
   have hT := HST.out k hkl
   obtain ⟨o1, o2, o3, o4, o5⟩ := HOK.out k hkl
   obtain ⟨x0, e0, b0⟩ := nat_of (z := T[k].c) ⟨by omega, o1.2⟩
   obtain ⟨x1, e1, b1⟩ := nat_of (z := T[k].s) ⟨by omega, o2.2⟩
   obtain ⟨x2, e2, b2⟩ := nat_of o3
   obtain ⟨x3, e3, b3⟩ := nat_of o4
   have hX0 : (Ss.cells T[k])[0]? = some (.int .i64 (x0 : Int)) := by rw [← e0]; rfl
   have hX1 : (Ss.cells T[k])[1]? = some (.int .i64 (x1 : Int)) := by rw [← e1]; rfl
   have hX2 : (Ss.cells T[k])[2]? = some (.int .i64 (x2 : Int)) := by rw [← e2]; rfl
   have hX3 : (Ss.cells T[k])[3]? = some (.int .i64 (x3 : Int)) := by rw [← e3]; rfl
   have hX4 : (Ss.cells T[k])[4]? = some (.string T[k].t) := rfl
   have hSB : ssB T[k] = le x0 8 ++ le x1 8 ++ le x2 8 ++ le x3 8 ++ le T[k].t.size 2 ++ sb T[k].t := by
    unfold ssB
    rw [e0, e1, e2, e3]
    simp only [Int.toNat_natCast]
   rw [hSB] at hT
   have HX0 := hid hX0
   have HX1 := hid hX1
   have HX2 := hid hX2
   have HX3 := hid hX3
   have HX4 := hid hX4
   have HC5 : Hid ((Ss.cells T[k]).length = 5) := hid (Ss.len _)
   have HC1 : Hid ((Ss.cells T[k]).all (·.oneCell') = true) := hid (Ss.one _)
   have HT := hid hT
   clear hX0 hX1 hX2 hX3 hX4 hSB hT e0 e1 e2 e3 o1 o2 o3 o4
   generalize T[k].t = t at *
   generalize Ss.cells T[k] = X at *
   have HTZ := hid o5
   have HE0 := hid (fun W => eight_any x0 W (by unfold U64; omega))
   have HE1 := hid (fun W => eight_any x1 W (by unfold U64; omega))
   have HE2 := hid (fun W => eight_any x2 W (by unfold U64; omega))
   have HE3 := hid (fun W => eight_any x3 W (by unfold U64; omega))
   have HU0 := hid (u64_fit x0 b0)
   have HU1 := hid (u64_fit x1 b1)
   have HU2 := hid (u64_fit x2 b2)
   have HU3 := hid (u64_fit x3 b3)
   have h81 := le_len 8 x0
   have h82 := le_len 8 x1
   have h83 := le_len 8 x2
   have h84 := le_len 8 x3
   generalize le x0 8 = E0 at *
   generalize le x1 8 = E1 at *
   generalize le x2 8 = E2 at *
   generalize le x3 8 = E3 at *
   have HSZ : Hid (sb (⟨E0.toArray⟩ ++ ⟨E1.toArray⟩ ++ ⟨E2.toArray⟩ ++ ⟨E3.toArray⟩ : ByteArray) = E0 ++ E1 ++ E2 ++ E3) := hid (by rw [cat_mk, cat_mk, cat_mk, sb_mk])
   have HSY : Hid ((⟨E0.toArray⟩ ++ ⟨E1.toArray⟩ ++ ⟨E2.toArray⟩ ++ ⟨E3.toArray⟩ : ByteArray).size = 32) := hid (by rw [← sb_len, HSZ.out]; simp only [List.length_append]; omega)
   have HRG := hid hrg
   have hq2 : ¬ (9223372036854775807 < E0.length + E1.length) := by omega
   have hq3 : ¬ (9223372036854775807 < E0.length + E1.length + E2.length) := by omega
   have hq4 : ¬ (9223372036854775807 < E0.length + E1.length + E2.length + E3.length) := by omega
   have hq3' : ¬ (9223372036854775807 < E0.length + (E1.length + E2.length)) := by omega
   have hq4' : ¬ (9223372036854775807 < E0.length + (E1.length + (E2.length + E3.length))) := by omega
   clear h81 h82 h83 h84 hrd hrg ho hbe b0 b1 b2 b3 o5
   go_wp2_with (first
    | (refine wpList_load_mid rfl 75 (.tmp 28) rfl ga (oa + k * 5) rfl X _ HRG.out Tryz.underlying75 rfl (by rw [HC5.out]; exact HZ.out) ?_)
    | (refine wpl_store_st rfl (.tmp 5) (.tmp 29) rfl HZ.out wr.heap.size ss0.cells X rfl rfl (Row.new _ _ _) ?_ (hid rfl) (hid HC5.out) (hid HC1.out); intro w4 hr4 hg4; have hb4 : Below wr.heap.size wr w4 := ((Below.refl _ _).alloc (Nat.le_refl _) _).trans (below_grown hg4 (Nat.le_refl _) (by simp)); have HB4 := hid hb4; have HR4 := hid hr4; clear hb4 hg4 hr4))
   have HCE := hid (fun W (hW : Kp w4 W) j u (hu : X[j]? = some u) => (HR4.out.below hW HR4.out.lt).at_ j u hu)
   have HCE0 := hid (fun W (hW : Kp w4 W) => HCE.out W hW 0 _ HX0.out)
   have HCE1 := hid (fun W (hW : Kp w4 W) => HCE.out W hW 1 _ HX1.out)
   have HCE2 := hid (fun W (hW : Kp w4 W) => HCE.out W hW 2 _ HX2.out)
   have HCE3 := hid (fun W (hW : Kp w4 W) => HCE.out W hW 3 _ HX3.out)
   refine wp_region_held_drew (S := fun w' => Kp w4 w') (by kernel_rfl) (Kp.refl _).drew (fun hH => ?_)
   refine tk_ (i := 0) (v := .pointer (some ⟨wr.heap.size, 0, none⟩)) rfl (Or.inl ⟨by kernel_rfl, fun w' hw' => by clear hw' ; go_simp⟩) hH ?_
   simp only [Act.put]
   refine tk_ (i := 1) (v := .int .i64 (x0 : Int)) rfl (Or.inl ⟨by kernel_rfl, fun w' hw' => by have h := HCE0.out w' hw'; go_simp⟩) hH ?_
   simp only [Act.put]
   refine tk_ (i := 2) (v := .int .u64 (x0 : Int)) rfl (Or.inl ⟨by kernel_rfl, fun w' hw' => by have h := HU0.out; go_simp⟩) hH ?_
   simp only [Act.put]
   refine tk_ (i := 4) (v := .pointer (some ⟨wr.heap.size, 1, none⟩)) rfl (Or.inl ⟨by kernel_rfl, fun w' hw' => by clear hw' ; go_simp⟩) hH ?_
   simp only [Act.put]
   refine tk_ (i := 5) (v := .int .i64 (x1 : Int)) rfl (Or.inl ⟨by kernel_rfl, fun w' hw' => by have h := HCE1.out w' hw'; go_simp⟩) hH ?_
   simp only [Act.put]
   refine tk_ (i := 6) (v := .int .u64 (x1 : Int)) rfl (Or.inl ⟨by kernel_rfl, fun w' hw' => by have h := HU1.out; go_simp⟩) hH ?_
   simp only [Act.put]
   refine tk_ (i := 9) (v := .pointer (some ⟨wr.heap.size, 2, none⟩)) rfl (Or.inl ⟨by kernel_rfl, fun w' hw' => by clear hw' ; go_simp⟩) hH ?_
   simp only [Act.put]
   refine tk_ (i := 10) (v := .int .i64 (x2 : Int)) rfl (Or.inl ⟨by kernel_rfl, fun w' hw' => by have h := HCE2.out w' hw'; go_simp⟩) hH ?_
   simp only [Act.put]
   refine tk_ (i := 11) (v := .int .u64 (x2 : Int)) rfl (Or.inl ⟨by kernel_rfl, fun w' hw' => by have h := HU2.out; go_simp⟩) hH ?_
   simp only [Act.put]
   refine tk_ (i := 14) (v := .pointer (some ⟨wr.heap.size, 3, none⟩)) rfl (Or.inl ⟨by kernel_rfl, fun w' hw' => by clear hw' ; go_simp⟩) hH ?_
   simp only [Act.put]
   refine tk_ (i := 15) (v := .int .i64 (x3 : Int)) rfl (Or.inl ⟨by kernel_rfl, fun w' hw' => by have h := HCE3.out w' hw'; go_simp⟩) hH ?_
   simp only [Act.put]
   refine tk_ (i := 16) (v := .int .u64 (x3 : Int)) rfl (Or.inl ⟨by kernel_rfl, fun w' hw' => by have h := HU3.out; go_simp⟩) hH ?_
   simp only [Act.put]
   refine rd1 (i := 3) (by kernel_rfl) rfl (fun K hK => ?_)
   go_simp
   go_at_call 45
   refine (HE0.out _).mono ?_
   rintro e v2 ⟨rfl, hb2⟩
   go_wp2_with fail
   refine hK.out _ _ (Kp.call hb2 hH) (fun hH => ?_)
   clear hK K
   try simp only [Act.put]
   refine rd1 (i := 7) (by kernel_rfl) rfl (fun K hK => ?_)
   go_simp
   go_at_call 45
   refine (HE1.out _).mono ?_
   rintro e v3 ⟨rfl, hb3⟩
   go_wp2_with fail
   refine hK.out _ _ (Kp.call hb3 hH) (fun hH => ?_)
   clear hK K
   try simp only [Act.put]
   refine tk_ (i := 8) (v := .string (⟨E0.toArray⟩ ++ ⟨E1.toArray⟩)) rfl (Or.inl ⟨by kernel_rfl, fun w' hw' => by clear hw' ; go_simp⟩) hH ?_
   simp only [Act.put]
   refine rd1 (i := 12) (by kernel_rfl) rfl (fun K hK => ?_)
   go_simp
   go_at_call 45
   refine (HE2.out _).mono ?_
   rintro e v4 ⟨rfl, hb4⟩
   go_wp2_with fail
   refine hK.out _ _ (Kp.call hb4 hH) (fun hH => ?_)
   clear hK K
   try simp only [Act.put]
   refine tk_ (i := 13) (v := .string (⟨E0.toArray⟩ ++ ⟨E1.toArray⟩ ++ ⟨E2.toArray⟩)) rfl (Or.inl ⟨by kernel_rfl, fun w' hw' => by clear hw' ; go_simp⟩) hH ?_
   simp only [Act.put]
   refine rd1 (i := 17) (by kernel_rfl) rfl (fun K hK => ?_)
   go_simp
   go_at_call 45
   refine (HE3.out _).mono ?_
   rintro e v5 ⟨rfl, hb5⟩
   go_wp2_with fail
   refine hK.out _ _ (Kp.call hb5 hH) (fun hH => ?_)
   clear hK K
   try simp only [Act.put]
   refine tk_ (i := 18) (v := .string (⟨E0.toArray⟩ ++ ⟨E1.toArray⟩ ++ ⟨E2.toArray⟩ ++ ⟨E3.toArray⟩)) rfl (Or.inl ⟨by kernel_rfl, fun w' hw' => by clear hw' ; go_simp⟩) hH ?_
   simp only [Act.put]
   refine rd1 (i := 19) (by kernel_rfl) rfl (fun K hK => ?_)
   go_simp
   refine hK.out _ _ (hH) (fun hH => ?_)
   clear hK K
   try simp only [Act.put]
   refine wpAnyH_done (by kernel_rfl) ?_ _
   try simp only [Act.put]
   have HB5 : Hid (Below w4.heap.size w4 v5) := hid hH
   have HC4 : Hid (v5.cell? ⟨wr.heap.size, 4, none⟩ = some (.string t)) := hid (HCE.out v5 HB5.out 4 _ HX4.out)
   have HBW : Hid (Below wr.heap.size wr v5) := hid (HB4.out.trans (HB5.out.mono HB4.out.size))
   clear hH
   go_wp2_with (first
    | (with_reducible refine wpl_append_str rfl (.tmp 49) (.tmp 50) 85 9 rfl w.heap.size 5 i1 Tryz.underlying85 Tryz.underlying9 hj hj0 hj1 hj2 (.slice Ab8 m cb) m _ rfl (own_below HO.out HBW.out) (⟨E0.toArray⟩ ++ ⟨E1.toArray⟩ ++ ⟨E2.toArray⟩ ++ ⟨E3.toArray⟩) rfl ?_ (hid (le_maxLen (by rw [HSY.out]; omega))) (hid (by rw [HSY.out]; omega)) (hid (Nat.le_trans HBE.out.size HBW.out.size)); intro v6 w6 hown6 hb6 hg6; rw [HSY.out, HSZ.out, ← bvs_app] at hown6; have h45 : w6.cell? ⟨wr.heap.size, 4, none⟩ = some (.string t) := (cell_far6 hg6 HO.out HC4.out); obtain ⟨A6, c6, rfl, -, -, hrd6⟩ := own_shape hown6; have HRD6 := hid hrd6; have HB6 := hid ((HBE.out.trans (HBW.out.mono HBE.out.size)).trans hb6); clear hrd6 hown6 hb6 hg6)
    | (go_at_call 46; refine (rpt_text A6 (packK T k ++ (E0 ++ E1 ++ E2 ++ E3)) (m + 32) c6 w6.heap.size t _ HRD6.out (by rw [List.length_append, ← HM.out, ← sb_len_cat HSZ.out HSY.out]) HTZ.out (Nat.le_refl _) (by omega)).mono ?_; rintro e w7 ⟨A7, c7, rfl, hown7, hb7⟩; have HO7 := hid hown7; have HB7 := hid hb7; clear hown7 hb7))
   have HTL := HTZ.out
   have hpk : packK T (k + 1) = packK T k ++ (E0 ++ E1 ++ E2 ++ E3) ++ le t.size 2 ++ sb t := by rw [HT.out]; simp only [List.append_assoc]
   exact ⟨⟨k + 1, m + 32 + 2 + t.size, by omega, by omega, hid (by
    have h1 := HO7.out.1
    rw [bvs_len] at h1
    rw [hpk]
    omega), by go_num, by rw [hpk]; exact own_base HO7.out HB6.out.size, HB6.out.trans (HB7.out.mono HB6.out.size)⟩, by simp [intOf]; omega⟩
  ·
   obtain rfl : k = n := by omega
   have hk1 : ¬ (k : Int) < (k : Int) := by omega
   clear hbe ho
   go_wp2_with (with_reducible refine wpl_str rfl _ 85 9 rfl 5 Tryz.underlying85 Tryz.underlying5 Tryz.underlying9 Ab8 m cb rfl wr.heap.size (packK T k) ?_ (hid HRB.out) (hid HM.out))
   go_ret
   exact ⟨by rw [HALL.out]; rfl, HBE.out⟩
theorem rpack_any8 (p : Nat) (fp : List Nat) (T : List Ss) (w : World) (h : Gk8 51 p T fp w) : Calls Tryz.prog 47 #[.pointer (some ⟨p, 0, none⟩)] w (SE w (pack T)) := by
 obtain ⟨v, -, h⟩ := h
 exact rpack_has p v T w h
theorem full_fits (h : Hd) (body : List UInt8) (hf : Fits h.nums) (hb : body.length ≤ 3968) : Fits (full h body) := by
 refine ⟨full_len h body, fun k hk => ?_⟩
 have hk15 : k < 15 := by rw [← full_len h body]; exact hk
 simp only [full, List.getElem_set]
 split
 ·
  rename_i e5
  subst e5
  show body.length ≤ 4294967295
  omega
 ·
  split
  ·
   rename_i e0
   subst e0
   have : (addS 0#32 body).toNat < 4294967296 := (addS 0#32 body).isLt
   show _ ≤ 4294967295
   omega
  ·
   exact hf.2 k (by rw [nums_len]; exact hk15)
theorem cat_sb (a : List UInt8) (s : ByteArray) : (⟨a.toArray⟩ : ByteArray) ++ s = ⟨(a ++ sb s).toArray⟩ := by
 apply ByteArray.ext
 simp [sb]
theorem sum_str (s : ByteArray) (h : s.size ≤ 1000000) (W : World) : Calls Tryz.prog 117 #[.string s] W fun e w' => e = .returned (.int .u32 ((addS 0#32 (sb s)).toNat : Int)) ∧ Below W.heap.size W w' := sum_calls s W (by omega)
theorem setRow_row (w : World) (z : Array Value) (cs : List Value) : Row ((w.alloc (.cells z 149)).setRow w.heap.size cs.toArray) w.heap.size 149 cs := setRow_heap _ w.heap.size z cs.toArray 149 (0, 0) (heap_alloc_new _ _)
theorem setRow_below (w : World) (z : Array Value) (cs : List Value) : Below w.heap.size w ((w.alloc (.cells z 149)).setRow w.heap.size cs.toArray) :=
 ((Below.refl _ _).alloc (Nat.le_refl _) _).trans (below_grown (grownBy_setRow _ w.heap.size _) (Nat.le_refl _) (by simp))
theorem pack_form (h : Hd) (body : ByteArray) (w : World) (hf : Fd w) (hno : ¬ Fits h.nums) : Calls Tryz.prog 80 #[h.val, .string body] w (SN w ([], 4)) := by
 have HR : Hid (∀ W, Fd W → Calls Tryz.prog 115 #[h.val] W (VE W (.bool false))) := hid fun W hW => by
  have := right_any h W hW
  rwa [decide_eq_false hno] at this
 have HF := hid hf
 clear hno hf
 obtain ⟨kind, frm, oper, view, opn, commit, client, session, request, a, b, parent⟩ := h
 have HR2 : Hid (∀ W : World, Fd W → Calls Tryz.prog 115 #[.agg #[.int .i64 kind, .int .i64 frm, .int .i64 oper, .int .i64 view, .int .i64 opn, .int .i64 commit, .int .i64 client, .int .i64 session, .int .i64 request, .int .i64 a, .int .i64 b, .int .u64 (parent : Int)]] W (VE W (.bool false))) := hid HR.out
 show Calls Tryz.prog 80 #[.agg #[.int .i64 kind, .int .i64 frm, .int .i64 oper, .int .i64 view, .int .i64 opn, .int .i64 commit, .int .i64 client, .int .i64 session, .int .i64 request, .int .i64 a, .int .i64 b, .int .u64 (parent : Int)], .string body] w _
 have hb0 : Below w.heap.size w (w.alloc (.cells #[.int .i64 kind, .int .i64 frm, .int .i64 oper, .int .i64 view, .int .i64 opn, .int .i64 commit, .int .i64 client, .int .i64 session, .int .i64 request, .int .i64 a, .int .i64 b, .int .u64 (parent : Int)] 122)) := (Below.refl _ _).alloc (Nat.le_refl _) _
 have HB := hid hb0
 clear hb0 HR
 go_enter Tryz.func80, Tryz.ntmps80
 go_wp2_with (go_at_call 115; refine (HR2.out _ (HF.out.below HB.out HF.out.1)).mono ?_; rintro e w1 ⟨rfl, hb1⟩)
 go_ret2
 exact ⟨rfl, HB.out.trans (hb1.mono HB.out.size)⟩
theorem pack_long (h : Hd) (body : ByteArray) (w : World) (hf : Fd w) (hyes : Fits h.nums) (hlong : 3968 < (body.size : Int)) : Calls Tryz.prog 80 #[h.val, .string body] w (SN w ([], 5)) := by
 have HR : Hid (∀ W, Fd W → Calls Tryz.prog 115 #[h.val] W (VE W (.bool true))) := hid fun W hW => by
  have := right_any h W hW
  rwa [decide_eq_true hyes] at this
 have HF := hid hf
 clear hyes hf
 obtain ⟨kind, frm, oper, view, opn, commit, client, session, request, a, b, parent⟩ := h
 have HR2 : Hid (∀ W : World, Fd W → Calls Tryz.prog 115 #[.agg #[.int .i64 kind, .int .i64 frm, .int .i64 oper, .int .i64 view, .int .i64 opn, .int .i64 commit, .int .i64 client, .int .i64 session, .int .i64 request, .int .i64 a, .int .i64 b, .int .u64 (parent : Int)]] W (VE W (.bool true))) := hid HR.out
 show Calls Tryz.prog 80 #[.agg #[.int .i64 kind, .int .i64 frm, .int .i64 oper, .int .i64 view, .int .i64 opn, .int .i64 commit, .int .i64 client, .int .i64 session, .int .i64 request, .int .i64 a, .int .i64 b, .int .u64 (parent : Int)], .string body] w _
 have hb0 : Below w.heap.size w (w.alloc (.cells #[.int .i64 kind, .int .i64 frm, .int .i64 oper, .int .i64 view, .int .i64 opn, .int .i64 commit, .int .i64 client, .int .i64 session, .int .i64 request, .int .i64 a, .int .i64 b, .int .u64 (parent : Int)] 122)) := (Below.refl _ _).alloc (Nat.le_refl _) _
 have HB := hid hb0
 clear hb0 HR
 go_enter Tryz.func80, Tryz.ntmps80
 go_wp2_with (go_at_call 115; refine (HR2.out _ (HF.out.below HB.out HF.out.1)).mono ?_; rintro e w1 ⟨rfl, hb1⟩)
 go_ret2
 exact ⟨rfl, HB.out.trans (hb1.mono HB.out.size)⟩
theorem pack_ok (h : Hd) (body : ByteArray) (w : World) (hf : Fd w) (hyes : Fits h.nums) (hroom : body.size ≤ 3968) : Calls Tryz.prog 80 #[h.val, .string body] w (SN w (headB (full h (sb body)) ++ sb body, 0)) := by
 have HR : Hid (∀ W, Fd W → Calls Tryz.prog 115 #[h.val] W (VE W (.bool true))) := hid fun W hW => by
  have := right_any h W hW
  rwa [decide_eq_true hyes] at this
 have HF := hid hf
 have hsl := sb_len body
 have hff := full_fits h (sb body) hyes (by omega)
 have HLY := hid (fun W hW => layh_any (full h (sb body)) hff W hW)
 have HN := hid (fun W => numbers_any h W)
 have HS := hid (fun W => sum_str body (by omega) W)
 have hnl := nums_len h
 have hBl := headB_len (full h (sb body))
 have hroomI : ¬ (3968 < (body.size : Int)) := by omega
 clear hyes hf hff
 have hfull : full h (sb body) = (h.nums.set 0 (addS 0#32 (sb body)).toNat).set 5 body.size := by rw [full, hsl]
 rw [hfull] at HLY ⊢
 have hset0 : ∀ x, (av h.nums).set 0 (.int .u64 (x : Nat)) = av (h.nums.set 0 x) := fun x => av_set _ _ _
 generalize addS 0#32 (sb body) = x at *
 have hx : x.toNat < 4294967296 := x.isLt
 have hset5 : ∀ l : List Nat, (av l).set 5 (.int .u64 ((body.size : Nat) : Int)) = av (l.set 5 body.size) := fun l => av_set _ _ _
 have HA : Hid ((av h.nums).toArray.size = 15) := hid (by simp [av, hnl])
 have HA2 : Hid ((av ((h.nums.set 0 x.toNat).set 5 body.size)).toArray.size = 15) := hid (by simp [av, hnl])
 have hone : Hid (∀ u ∈ av h.nums, u.oneCell' = true) := hid (av_one _)
 have HROW : Hid (∀ (W : World) (g : Nat), Row W g 149 (av h.nums) → ∃ y z : Nat, W.cell? ⟨g, 0, none⟩ = some (.int .u64 (y : Int)) ∧ W.frozen? ⟨g, 0, none⟩ = false ∧ (W.setCell ⟨g, 0, none⟩ (.int .u64 (x.toNat : Int))).cell? ⟨g, 5, none⟩ = some (.int .u64 (z : Int)) ∧ (W.setCell ⟨g, 0, none⟩ (.int .u64 (x.toNat : Int))).frozen? ⟨g, 5, none⟩ = false ∧ Row ((W.setCell ⟨g, 0, none⟩ (.int .u64 (x.toNat : Int)))) g 149 (av (h.nums.set 0 x.toNat)) ∧ Row ((W.setCell ⟨g, 0, none⟩ (.int .u64 (x.toNat : Int))).setCell ⟨g, 5, none⟩ (.int .u64 ((body.size : Nat) : Int))) g 149 (av ((h.nums.set 0 x.toNat).set 5 body.size))) := hid fun W g hr => by
  have h1 := hr.set_ 0 (.int .u64 (x.toNat : Int))
  rw [av_set] at h1
  have h2 := h1.set_ 5 (.int .u64 ((body.size : Nat) : Int))
  rw [av_set] at h2
  exact ⟨_, _, (hr.cell 0).trans (av_get _ 0 (by rw [hnl]; omega)), hr.frozen _, (h1.cell 5).trans (av_get _ 5 (by simp [hnl])), h1.frozen _, h1, h2⟩
 have hcat : ¬ (9223372036854775807 < (headB ((h.nums.set 0 x.toNat).set 5 body.size)).length + body.size) := by rw [headB_len]; omega
 obtain ⟨kind, frm, oper, view, opn, commit, client, session, request, a, b, parent⟩ := h
 have HR2 : Hid (∀ W : World, Fd W → Calls Tryz.prog 115 #[.agg #[.int .i64 kind, .int .i64 frm, .int .i64 oper, .int .i64 view, .int .i64 opn, .int .i64 commit, .int .i64 client, .int .i64 session, .int .i64 request, .int .i64 a, .int .i64 b, .int .u64 (parent : Int)]] W (VE W (.bool true))) := hid HR.out
 have HN2 : Hid (∀ W : World, Calls Tryz.prog 116 #[.agg #[.int .i64 kind, .int .i64 frm, .int .i64 oper, .int .i64 view, .int .i64 opn, .int .i64 commit, .int .i64 client, .int .i64 session, .int .i64 request, .int .i64 a, .int .i64 b, .int .u64 (parent : Int)]] W (VE W (.agg (av (Hd.nums ⟨kind, frm, oper, view, opn, commit, client, session, request, a, b, parent⟩)).toArray))) := hid HN.out
 show Calls Tryz.prog 80 #[.agg #[.int .i64 kind, .int .i64 frm, .int .i64 oper, .int .i64 view, .int .i64 opn, .int .i64 commit, .int .i64 client, .int .i64 session, .int .i64 request, .int .i64 a, .int .i64 b, .int .u64 (parent : Int)], .string body] w _
 generalize Hd.nums ⟨kind, frm, oper, view, opn, commit, client, session, request, a, b, parent⟩ = L at *
 have hb0 : Below w.heap.size w (w.alloc (.cells #[.int .i64 kind, .int .i64 frm, .int .i64 oper, .int .i64 view, .int .i64 opn, .int .i64 commit, .int .i64 client, .int .i64 session, .int .i64 request, .int .i64 a, .int .i64 b, .int .u64 (parent : Int)] 122)) := (Below.refl _ _).alloc (Nat.le_refl _) _
 have hl0 := Row.new w 122 #[.int .i64 kind, .int .i64 frm, .int .i64 oper, .int .i64 view, .int .i64 opn, .int .i64 commit, .int .i64 client, .int .i64 session, .int .i64 request, .int .i64 a, .int .i64 b, .int .u64 (parent : Int)]
 have hs0 : w.heap.size < (w.alloc (.cells #[.int .i64 kind, .int .i64 frm, .int .i64 oper, .int .i64 view, .int .i64 opn, .int .i64 commit, .int .i64 client, .int .i64 session, .int .i64 request, .int .i64 a, .int .i64 b, .int .u64 (parent : Int)] 122)).heap.size := by simp
 have HB := hid hb0
 have HS0 := hid hs0
 have HL0 := hid hl0
 have hcells : Hid (∀ W : World, Row W w.heap.size 122 (Hd.cells ⟨kind, frm, oper, view, opn, commit, client, session, request, a, b, parent⟩).toList → ∀ i u, (Hd.cells ⟨kind, frm, oper, view, opn, commit, client, session, request, a, b, parent⟩)[i]? = some u → W.cell? ⟨w.heap.size, i, none⟩ = some u) := hid fun W hr i u hu => by
  rw [hr.cell, Array.getElem?_toList]
  exact hu
 clear hb0 hl0 hs0 HR HN hset0 hset5 hnl hBl hfull hsl
 go_enter Tryz.func80, Tryz.ntmps80
 go_wp2_with (first
  | (go_at_call 115; refine (HR2.out _ (HF.out.below HB.out HF.out.1)).mono ?_; rintro e w1 ⟨rfl, hb1⟩; have hc := hcells.out w1 (HL0.out.below hb1 HS0.out); have q0 := hc 0 (.int .i64 kind) rfl; have q1 := hc 1 (.int .i64 frm) rfl; have q2 := hc 2 (.int .i64 oper) rfl; have q3 := hc 3 (.int .i64 view) rfl; have q4 := hc 4 (.int .i64 opn) rfl; have q5 := hc 5 (.int .i64 commit) rfl; have q6 := hc 6 (.int .i64 client) rfl; have q7 := hc 7 (.int .i64 session) rfl; have q8 := hc 8 (.int .i64 request) rfl; have q9 := hc 9 (.int .i64 a) rfl; have q10 := hc 10 (.int .i64 b) rfl; have q11 := hc 11 (.int .u64 (parent : Int)) rfl; clear hc)
  | (go_at_call 116; refine (HN2.out _).mono ?_; rintro e w2 ⟨rfl, hb2⟩)
  | (refine wpList_store_row rfl 149 (.tmp 6) (.tmp 14) rfl w2.heap.size (av L).toArray rfl rfl 149 #[.int .u64 0, .int .u64 0, .int .u64 0, .int .u64 0, .int .u64 0, .int .u64 0, .int .u64 0, .int .u64 0, .int .u64 0, .int .u64 0, .int .u64 0, .int .u64 0, .int .u64 0, .int .u64 0, .int .u64 0] (heap_alloc_new _ _) (by rw [HA.out]; kernel_rfl) (by rw [HA.out]; rfl) (by rw [Array.all_eq_true']; intro u hu; exact hone.out u (by simpa using hu)) ?_; have hr3 := setRow_row w2 #[.int .u64 0, .int .u64 0, .int .u64 0, .int .u64 0, .int .u64 0, .int .u64 0, .int .u64 0, .int .u64 0, .int .u64 0, .int .u64 0, .int .u64 0, .int .u64 0, .int .u64 0, .int .u64 0, .int .u64 0] (av L); generalize hw3 : (w2.alloc (.cells #[.int .u64 0, .int .u64 0, .int .u64 0, .int .u64 0, .int .u64 0, .int .u64 0, .int .u64 0, .int .u64 0, .int .u64 0, .int .u64 0, .int .u64 0, .int .u64 0, .int .u64 0, .int .u64 0, .int .u64 0] 149)).setRow w2.heap.size (av L).toArray = w3 at hr3 ⊢; have hb3 : Below w2.heap.size w2 w3 := (by rw [← hw3]; exact setRow_below w2 #[.int .u64 0, .int .u64 0, .int .u64 0, .int .u64 0, .int .u64 0, .int .u64 0, .int .u64 0, .int .u64 0, .int .u64 0, .int .u64 0, .int .u64 0, .int .u64 0, .int .u64 0, .int .u64 0, .int .u64 0] (av L)); have hs3 := hr3.lt; have HR3 := hid hr3; clear hr3 hw3)
  | (go_at_call 117; refine (HS.out _).mono ?_; rintro e w4 ⟨rfl, hb4⟩; obtain ⟨y, z, q12, q13, q14, q15, q16, q17⟩ := HROW.out w4 w2.heap.size (HR3.out.below hb4 hs3); have HR4 := hid q16; have HR5 := hid q17; clear q16 q17; have hbA := ((((HB.out.trans (hb1.mono HB.out.size)).trans (hb2.mono (Nat.le_trans HB.out.size hb1.size))).trans (hb3.mono (Nat.le_trans HB.out.size (Nat.le_trans hb1.size hb2.size)))).trans (hb4.mono (Nat.le_trans HB.out.size (Nat.le_trans hb1.size (Nat.le_trans hb2.size hb3.size))))); have HBA := hid ((hbA.setCell (p := ⟨w2.heap.size, 0, none⟩) (Nat.le_trans HB.out.size (Nat.le_trans hb1.size hb2.size)) (.int .u64 (x.toNat : Int))).setCell (p := ⟨w2.heap.size, 5, none⟩) (Nat.le_trans HB.out.size (Nat.le_trans hb1.size hb2.size)) (.int .u64 ((body.size : Nat) : Int))); clear hbA)
  | (refine wpList_load_row rfl 149 (.tmp 6) rfl w2.heap.size rfl 149 (av ((L.set 0 x.toNat).set 5 body.size)).toArray (0, 0) _ HR5.out Tryz.underlying149 rfl (by rw [HA2.out]; kernel_rfl) ?_)
  | (go_at_call 118; refine (HLY.out _ (HF.out.below HBA.out HF.out.1)).mono ?_; rintro e w6 ⟨rfl, hb6⟩))
 go_ret2
 exact ⟨by rw [cat_sb]; rfl, HBA.out.trans (hb6.mono HBA.out.size)⟩
theorem pack_any9 (h : Hd) (body : ByteArray) (w : World) (hf : Fd w) : Calls Tryz.prog 80 #[h.val, .string body] w (SN w (packS h (sb body))) := by
 unfold packS
 have hl := sb_len body
 by_cases hfit : Fits h.nums
 ·
  rw [if_neg (by simpa using hfit)]
  by_cases hlong : 3968 < (sb body).length
  ·
   rw [if_pos hlong]
   exact pack_long h body w hf hfit (by omega)
  ·
   rw [if_neg hlong]
   exact pack_ok h body w hf hfit (by omega)
 ·
  rw [if_pos hfit]
  exact pack_form h body w hf hfit
theorem small_any (n : Int) (b : Bool) (w : World) (h : b = decide (0 ≤ n ∧ n ≤ 255)) : Calls Tryz.prog 160 #[.int .i64 n] w fun e w' => e = .returned (.bool b) ∧ w = w' := by
 subst h
 by_cases h0 : 0 ≤ n
 ·
  by_cases h1 : n ≤ 255
  ·
   go_enter Tryz.func160, Tryz.ntmps160
   go_wp2
   go_ret
   exact ⟨by simp [h0, h1], rfl⟩
  ·
   go_enter Tryz.func160, Tryz.ntmps160
   go_wp2
   go_ret
   exact ⟨by simp [h1], rfl⟩
 ·
  have h2 : decide (0 ≤ n) = false := by simp; omega
  go_enter Tryz.func160, Tryz.ntmps160
  go_wp2
  go_ret
  exact ⟨by simp, rfl⟩
theorem fits_any (n : Int) (b : Bool) (w : World) (h : b = decide (0 ≤ n ∧ n ≤ 72057594037927935)) : Calls Tryz.prog 161 #[.int .i64 n] w fun e w' => e = .returned (.bool b) ∧ w = w' := by
 subst h
 by_cases h0 : 0 ≤ n
 ·
  by_cases h1 : n ≤ 72057594037927935
  ·
   go_enter Tryz.func161, Tryz.ntmps161
   go_wp2
   go_ret
   exact ⟨by simp [h0, h1], rfl⟩
  ·
   go_enter Tryz.func161, Tryz.ntmps161
   go_wp2
   go_ret
   exact ⟨by simp [h1], rfl⟩
 ·
  have h2 : decide (0 ≤ n) = false := by simp; omega
  go_enter Tryz.func161, Tryz.ntmps161
  go_wp2
  go_ret
  exact ⟨by simp, rfl⟩
def sm (n : Int) : Bool := decide (0 ≤ n ∧ n ≤ 255)
def ft (n : Int) : Bool := decide (0 ≤ n ∧ n ≤ 72057594037927935)
def rightS (h : Hd) : Bool := sm h.kind && sm h.frm && sm h.oper && ft h.view && ft h.opn && ft h.commit && ft h.client && ft h.session && ft h.request && ft h.a && ft h.b
theorem rright_any (h : Hd) (w : World) : Calls Tryz.prog 151 #[h.val] w fun e w' => e = .returned (.bool (rightS h)) ∧ Below w.heap.size w w' := by
 obtain ⟨kind, frm, oper, view, opn, commit, client, session, request, a, b, parent⟩ := h
 show Calls Tryz.prog 151 #[.agg #[.int .i64 kind, .int .i64 frm, .int .i64 oper, .int .i64 view, .int .i64 opn, .int .i64 commit, .int .i64 client, .int .i64 session, .int .i64 request, .int .i64 a, .int .i64 b, .int .u64 (parent : Int)]] w fun e w' => e = .returned (.bool (sm kind && sm frm && sm oper && ft view && ft opn && ft commit && ft client && ft session && ft request && ft a && ft b)) ∧ Below w.heap.size w w'
 have H0 := hid (fun W => small_any kind (sm kind) W rfl)
 have H1 := hid (fun W => small_any frm (sm frm) W rfl)
 have H2 := hid (fun W => small_any oper (sm oper) W rfl)
 have H3 := hid (fun W => fits_any view (ft view) W rfl)
 have H4 := hid (fun W => fits_any opn (ft opn) W rfl)
 have H5 := hid (fun W => fits_any commit (ft commit) W rfl)
 have H6 := hid (fun W => fits_any client (ft client) W rfl)
 have H7 := hid (fun W => fits_any session (ft session) W rfl)
 have H8 := hid (fun W => fits_any request (ft request) W rfl)
 have H9 := hid (fun W => fits_any a (ft a) W rfl)
 have H10 := hid (fun W => fits_any b (ft b) W rfl)
 generalize sm kind = b0 at *
 generalize sm frm = b1 at *
 generalize sm oper = b2 at *
 generalize ft view = b3 at *
 generalize ft opn = b4 at *
 generalize ft commit = b5 at *
 generalize ft client = b6 at *
 generalize ft session = b7 at *
 generalize ft request = b8 at *
 generalize ft a = b9 at *
 generalize ft b = b10 at *
 go_enter Tryz.func151, Tryz.ntmps151
 go_wp2_with (first
  | (go_at_call_of 160 (Value.int .i64 kind); refine (H0.out _).mono ?_; rintro e w' ⟨rfl, rfl⟩)
  | (go_at_call_of 160 (Value.int .i64 frm); refine (H1.out _).mono ?_; rintro e w' ⟨rfl, rfl⟩)
  | (go_at_call_of 160 (Value.int .i64 oper); refine (H2.out _).mono ?_; rintro e w' ⟨rfl, rfl⟩)
  | (go_at_call_of 161 (Value.int .i64 view); refine (H3.out _).mono ?_; rintro e w' ⟨rfl, rfl⟩)
  | (go_at_call_of 161 (Value.int .i64 opn); refine (H4.out _).mono ?_; rintro e w' ⟨rfl, rfl⟩)
  | (go_at_call_of 161 (Value.int .i64 commit); refine (H5.out _).mono ?_; rintro e w' ⟨rfl, rfl⟩)
  | (go_at_call_of 161 (Value.int .i64 client); refine (H6.out _).mono ?_; rintro e w' ⟨rfl, rfl⟩)
  | (go_at_call_of 161 (Value.int .i64 session); refine (H7.out _).mono ?_; rintro e w' ⟨rfl, rfl⟩)
  | (go_at_call_of 161 (Value.int .i64 request); refine (H8.out _).mono ?_; rintro e w' ⟨rfl, rfl⟩)
  | (go_at_call_of 161 (Value.int .i64 a); refine (H9.out _).mono ?_; rintro e w' ⟨rfl, rfl⟩)
  | (go_at_call_of 161 (Value.int .i64 b); refine (H10.out _).mono ?_; rintro e w' ⟨rfl, rfl⟩))
 all_goals (go_ret; exact ⟨by clear H0 H1 H2 H3 H4 H5 H6 H7 H8 H9 H10; simp [*], (Below.refl _ _).alloc (Nat.le_refl _) _⟩)
end Go.Proofs.YtgednnjmcjhfmaaGreatDoor
namespace Go.Proofs.YtgednnjmcjhfmaaGreatDoor
open Go.RowKit
set_option maxHeartbeats 80000000
/-! ### which headers may be -/
theorem fits_iff (h : Hd) (hp : h.parent < 18446744073709551616) : Fits h.nums ↔ (un h.kind ≤ 255 ∧ un h.frm ≤ 255 ∧ un h.oper ≤ 255) ∧ (un h.view ≤ 72057594037927935 ∧ un h.opn ≤ 72057594037927935 ∧ un h.commit ≤ 72057594037927935 ∧ un h.client ≤ 72057594037927935) ∧
  (un h.session ≤ 72057594037927935 ∧ un h.request ≤ 72057594037927935 ∧ un h.a ≤ 72057594037927935 ∧ un h.b ≤ 72057594037927935) := by
 constructor
 ·
  rintro ⟨_, hf⟩
  have hl := nums_len h
  exact ⟨⟨hf 1 (by omega), hf 2 (by omega), hf 3 (by omega)⟩, ⟨hf 7 (by omega), hf 8 (by omega), hf 9 (by omega), hf 10 (by omega)⟩, hf 11 (by omega), hf 12 (by omega), hf 13 (by omega), hf 14 (by omega)⟩
 ·
  rintro ⟨⟨h1, h2, h3⟩, ⟨h7, h8, h9, h10⟩, h11, h12, h13, h14⟩
  refine ⟨rfl, fun k hk => ?_⟩
  match k, hk with
  | 0, _ => exact Nat.zero_le _
  | 1, _ => exact h1
  | 2, _ => exact h2
  | 3, _ => exact h3
  | 4, _ => exact Nat.zero_le _
  | 5, _ => exact Nat.zero_le _
  | 6, _ => exact Nat.le_of_lt_succ hp
  | 7, _ => exact h7
  | 8, _ => exact h8
  | 9, _ => exact h9
  | 10, _ => exact h10
  | 11, _ => exact h11
  | 12, _ => exact h12
  | 13, _ => exact h13
  | 14, _ => exact h14
  | k + 15, hk => exact absurd hk (by rw [nums_len]; omega)
theorem un_small {x : Int} (hx : In64 x) : un x ≤ 255 ↔ 0 ≤ x ∧ x ≤ 255 := by
 have h := un_eq x
 have h0 := un_lt x
 unfold In64 at hx
 omega
theorem un_fits {x : Int} (hx : In64 x) : un x ≤ 72057594037927935 ↔ 0 ≤ x ∧ x ≤ 72057594037927935 := by
 have h := un_eq x
 have h0 := un_lt x
 unfold In64 at hx
 omega
theorem right_fits (h : Hd) (hh : h.fits) : rightS h = decide (Fits h.nums) := by
 obtain ⟨⟨a1, a2, a3, a4, a5, a6⟩, ⟨b1, b2, b3, b4, b5⟩, hp⟩ := hh
 unfold rightS sm ft
 rw [Bool.eq_iff_iff, decide_eq_true_iff, fits_iff h hp, un_small a1, un_small a2, un_small a3, un_fits a4, un_fits a5, un_fits a6, un_fits b1, un_fits b2, un_fits b3, un_fits b4, un_fits b5]
 simp only [Bool.and_eq_true, decide_eq_true_eq]
 constructor
 ·
  rintro ⟨⟨⟨⟨⟨⟨⟨⟨⟨⟨c1, c2⟩, c3⟩, c4⟩, c5⟩, c6⟩, c7⟩, c8⟩, c9⟩, c10⟩, c11⟩
  exact ⟨⟨c1, c2, c3⟩, ⟨c4, c5, c6, c7⟩, c8, c9, c10, c11⟩
 ·
  rintro ⟨⟨c1, c2, c3⟩, ⟨c4, c5, c6, c7⟩, c8, c9, c10, c11⟩
  exact ⟨⟨⟨⟨⟨⟨⟨⟨⟨⟨c1, c2⟩, c3⟩, c4⟩, c5⟩, c6⟩, c7⟩, c8⟩, c9⟩, c10⟩, c11⟩
/-! ### the bytes of one place -/
theorem fl_part (l : List Nat) : ∀ m k, k < m → ∃ t, fl l m = fl l k ++ (le (l.getD k 0) (sz k) ++ t)
 | 0, _, h => by omega
 | m + 1, k, h => by
  by_cases e : k = m
  ·
   subst e
   exact ⟨[], by simp [fl]⟩
  ·
   obtain ⟨t, ht⟩ := fl_part l m k (by omega)
   exact ⟨t ++ le (l.getD m 0) (sz m), by rw [fl, ht]; simp⟩
theorem place (l : List Nat) (body : List UInt8) (k : Nat) (hk : k < 15) : ((headB l ++ body).drop (4 + off k)).take (sz k) = le (l.getD k 0) (sz k) := by
 obtain ⟨t, ht⟩ := fl_part l 15 k hk
 have h4 := sumS_len (restS l)
 have hf := fl_len l k
 have e : headB l ++ body = (sumS (restS l) ++ fl l k) ++ (le (l.getD k 0) (sz k) ++ (t ++ List.replicate 40 0 ++ body)) := by
  have e1 : restS l = fl l k ++ (le (l.getD k 0) (sz k) ++ (t ++ List.replicate 40 0)) := by
   rw [restS, ht]
   simp only [List.append_assoc]
  unfold headB
  rw [show sumS (restS l) ++ restS l = sumS (restS l) ++ (fl l k ++ (le (l.getD k 0) (sz k) ++ (t ++ List.replicate 40 0))) from congrArg (fun z => sumS (restS l) ++ z) e1]
  simp only [List.append_assoc]
 have hl : (sumS (restS l) ++ fl l k).length = 4 + off k := by rw [List.length_append, h4, hf]
 rw [e, ← hl, List.drop_left, List.take_append_of_le_length (by rw [le_len]; exact Nat.le_refl _), List.take_of_length_le (by rw [le_len]; exact Nat.le_refl _)]
/-! ### packed and read again -/
/-- what is packed is so -/
theorem packS_ok {h : Hd} {body s : List UInt8} (e : packS h body = (s, 0)) : Fits h.nums ∧ body.length ≤ 3968 ∧ s = headB (full h body) ++ body := by
 unfold packS at e
 split at e
 ·
  simp at e
 ·
  rename_i hf
  split at e
  ·
   simp at e
  ·
   rename_i hl
   exact ⟨by simpa using hf, by omega, (Prod.mk.inj e).1.symm⟩
/-! ### turned, cut, grown -/
end Go.Proofs.YtgednnjmcjhfmaaGreatDoor
