/-
  The walks of package machine's lay, layMark, layText, Pack.
-/
import Derived.Test.YtgednnjmcjhfmaaGreatDoorM24
import Derived.Test.YtgednnjmcjhfmaaGreatDoorM02
import Derived.Test.YtgednnjmcjhfmaaGreatDoorM04
import Derived.Test.YtgednnjmcjhfmaaGreatDoorM19
import Derived.Test.YtgednnjmcjhfmaaGreatDoorM21
import Derived.Test.YtgednnjmcjhfmaaGreatDoorM15
import Derived.BigQuiet
import Derived.Deep.RegionHeld
import Derived.Test.YtgednnjmcjhfmaaGreatDoorM26
import Derived.Test.YtgednnjmcjhfmaaGreatDoorM22
namespace Go.Proofs.YtgednnjmcjhfmaaGreatDoor
open Go.RowKit
set_option maxRecDepth 10000
set_option maxHeartbeats 80000000
/-- the first k of s bytes of n, noughts behind -/
def lws (n k s : Nat) : List Value := bvs (le n k) ++ List.replicate (s - k) (.int .u8 0)
theorem lws_len (n k s : Nat) (h : k ≤ s) : (lws n k s).length = s := by simp [lws, bvs, le_len]; omega
theorem lws_at (n k s : Nat) (h : k < s) : (lws n k s)[k]? = some (.int .u8 0) := by
 have h1 : (bvs (le n k)).length = k := by simp [bvs, le_len]
 rw [lws, List.getElem?_append_right (by omega), h1]
 simp [show 0 < s - k by omega]
theorem lws_set (n k s : Nat) (h : k < s) : (lws n k s).set k (.int .u8 ((n : Int) / 2 ^ (8 * k) % 256)) = lws n (k + 1) s := by
 have h1 : ∀ m, (bvs (le n m)).length = m := fun m => by simp [bvs, le_len]
 apply List.ext_getElem?
 intro j
 by_cases hj : j = k
 ·
  subst hj
  rw [List.getElem?_set_self (by rw [lws_len n j s (by omega)]; omega)]
  rw [lws, List.getElem?_append_left (by rw [h1]; omega), bvs, List.getElem?_map, le_get _ _ _ (by omega)]
  simp only [Option.map_some, bv_ofNat]
  simp
 ·
  rw [List.getElem?_set_ne (by omega)]
  by_cases hlt : j < k
  ·
   rw [lws, lws, List.getElem?_append_left (by rw [h1]; omega), List.getElem?_append_left (by rw [h1]; omega), bvs, bvs, List.getElem?_map, List.getElem?_map, le_get _ _ _ hlt, le_get _ _ _ (by omega)]
  ·
   rw [lws, lws, List.getElem?_append_right (by rw [h1]; omega), List.getElem?_append_right (by rw [h1]; omega), h1, h1]
   simp [List.getElem?_replicate]
   by_cases h8 : j < s
   ·
    rw [if_pos (by omega), if_pos (by omega)]
   ·
    rw [if_neg (by omega), if_neg (by omega)]
theorem lws_zero (n s : Nat) : lws n 0 s = List.replicate s (.int .u8 0) := by simp [lws, le, bvs]
theorem lws_full (n s : Nat) : lws n s s = bvs (le n s) := by simp [lws]
theorem mlay_any (n size : Nat) (w : World) (h0 : size ≤ 8) : Calls Tryz.prog 68 #[.int .u64 n, .int .i64 size] w (SE w (le n size)) := by
 obtain ⟨i0, hi, hz0, hz1, hz2⟩ := info_parts u8info
 go_enter Tryz.func68, Tryz.ntmps68
 go_wp2_with (with_reducible refine wpl_make rfl _ _ _ rfl 5 i0 _ Tryz.underlying85 hi hz0 hz1 rfl _ _ _ _ size rfl rfl ?_ ?_ ?_ ?_ ?_; intro g w1 HG HR1 HB1)
 rotate_left
 ·
  exact hid trivial
 ·
  exact hid trivial
 ·
  exact hid (by rw [hz2]; omega)
 ·
  exact hid (by simp only [maxLen]; omega)
 have HR := hid HR1
 have HB := hid HB1
 clear HR1 HB1
 go_loopw [11] (fun i wr => ∃ k : Nat, k ≤ size ∧ i = .int .i64 k ∧ Row wr g 5 (lws n k size) ∧ Below w.heap.size w wr) (fun i _ => size - (intOf i).toNat)
 case atStart => exact ⟨0, by omega, rfl, by rw [lws_zero]; exact HR.out, HB.out.mono (by have := HG.out; omega)⟩
 case round =>
  obtain ⟨k, hk, rfl, hb, hbe⟩ := hrel
  have HG' := HG.out
  by_cases hlt : k < size
  ·
   have hc := (hb.cell k).trans (lws_at n k size hlt)
   have hf := hb.frozen k
   have hst := hb.set_ k (.int .u8 ((n : Int) / 2 ^ (8 * k) % 256))
   rw [lws_set n k size hlt] at hst
   have HS := hid hst
   have HBE := hid (hbe.setCell (p := ⟨g, k, none⟩) (by show w.heap.size ≤ g; omega) (.int .u8 ((n : Int) / 2 ^ (8 * k) % 256)))
   have hlti : (k : Int) < (size : Int) := by omega
   clear hst hb hbe HG'
   go_wp2_with fail
   exact ⟨⟨k + 1, by omega, by go_num, HS.out, HBE.out⟩, by simp [intOf]; omega⟩
  ·
   obtain rfl : k = size := by omega
   rw [lws_full] at hb
   have HBE := hid hbe
   have HRD := hid (hb.rd hb.lt)
   have HLN := hid (le_len k n)
   clear HG' hb hbe
   go_wp2_with (refine wpl_str rfl (.tmp 23) 85 9 rfl 5 Tryz.underlying85 Tryz.underlying5 Tryz.underlying9 (some ⟨g, 0, none⟩) k k rfl wr.heap.size (le n k) ?_ (hid HRD.out) (hid HLN.out.symm))
   go_ret
   exact ⟨rfl, HBE.out⟩
theorem mlmark_go (x0 x1 ms : Nat) (w : World) (hu0 : IntKind.u64.wrap (x0 : Int) = (x0 : Int)) (hu1 : IntKind.u64.wrap (x1 : Int) = (x1 : Int)) : Calls Tryz.prog 41 #[.agg #[.int .i64 (x0 : Int), .int .i64 (x1 : Int), .int .u64 (ms : Int)]] w (SE w (le x0 8 ++ le x1 8 ++ le ms 8)) := by
 have HU0 := hid hu0
 have HU1 := hid hu1
 have HRM := hid (Row.new w 41 #[.int .i64 (x0 : Int), .int .i64 (x1 : Int), .int .u64 (ms : Int)])
 have HB0 := hid ((Below.refl w.heap.size w).alloc (Nat.le_refl _) (.cells #[.int .i64 (x0 : Int), .int .i64 (x1 : Int), .int .u64 (ms : Int)] 41))
 have HL0 := hid (fun W => mlay_any x0 8 W (Nat.le_refl _))
 have HL1 := hid (fun W => mlay_any x1 8 W (Nat.le_refl _))
 have HL2 := hid (fun W => mlay_any ms 8 W (Nat.le_refl _))
 have h80 := le_len 8 x0
 have h81 := le_len 8 x1
 have h82 := le_len 8 ms
 unfold SE
 rw [← cat_mk, ← cat_mk]
 generalize le x0 8 = E0 at *
 generalize le x1 8 = E1 at *
 generalize le ms 8 = E2 at *
 have hq2 : ¬ (9223372036854775807 < E0.length + E1.length) := by omega
 have hq3 : ¬ (9223372036854775807 < E0.length + E1.length + E2.length) := by omega
 have hq3' : ¬ (9223372036854775807 < E0.length + (E1.length + E2.length)) := by omega
 clear h80 h81 h82 hu0 hu1
 go_enter Tryz.func41, Tryz.ntmps41
 go_wp2_with fail
 try simp only [Act.put]
 refine wp_region_held_drew (S := fun W => Below (w.alloc (.cells #[.int .i64 (x0 : Int), .int .i64 (x1 : Int), .int .u64 (ms : Int)] 41)).heap.size (w.alloc (.cells #[.int .i64 (x0 : Int), .int .i64 (x1 : Int), .int .u64 (ms : Int)] 41)) W) (by kernel_rfl) ((Below.refl _ _).drew) (fun hH => ?_)
 refine tk_ (i := 0) (v := .pointer (some ⟨w.heap.size, 0, none⟩)) rfl (Or.inl ⟨by kernel_rfl, fun w' hw' => by clear hw'; go_simp⟩) hH ?_
 simp only [Act.put]
 refine tk_ (i := 1) (v := .int .i64 (x0 : Int)) rfl (Or.inl ⟨by kernel_rfl, fun w' hw' => by have h := (HRM.out.below hw' HRM.out.lt).at_ 0 _ rfl; clear hw'; go_simp⟩) hH ?_
 simp only [Act.put]
 refine tk_ (i := 2) (v := .int .u64 (x0 : Int)) rfl (Or.inl ⟨by kernel_rfl, fun w' hw' => by have h := HU0.out; clear hw'; go_simp⟩) hH ?_
 simp only [Act.put]
 refine tk_ (i := 4) (v := .pointer (some ⟨w.heap.size, 1, none⟩)) rfl (Or.inl ⟨by kernel_rfl, fun w' hw' => by clear hw'; go_simp⟩) hH ?_
 simp only [Act.put]
 refine tk_ (i := 5) (v := .int .i64 (x1 : Int)) rfl (Or.inl ⟨by kernel_rfl, fun w' hw' => by have h := (HRM.out.below hw' HRM.out.lt).at_ 1 _ rfl; clear hw'; go_simp⟩) hH ?_
 simp only [Act.put]
 refine tk_ (i := 6) (v := .int .u64 (x1 : Int)) rfl (Or.inl ⟨by kernel_rfl, fun w' hw' => by have h := HU1.out; clear hw'; go_simp⟩) hH ?_
 simp only [Act.put]
 refine tk_ (i := 9) (v := .pointer (some ⟨w.heap.size, 2, none⟩)) rfl (Or.inl ⟨by kernel_rfl, fun w' hw' => by clear hw'; go_simp⟩) hH ?_
 simp only [Act.put]
 refine tk_ (i := 10) (v := .int .u64 (ms : Int)) rfl (Or.inl ⟨by kernel_rfl, fun w' hw' => by have h := (HRM.out.below hw' HRM.out.lt).at_ 2 _ rfl; clear hw'; go_simp⟩) hH ?_
 simp only [Act.put]
 refine rd1 (i := 3) (by kernel_rfl) rfl (fun K hK => ?_)
 rw [if_pos (by kernel_rfl)]
 go_simp
 go_at_call 68
 refine (HL0.out _).mono ?_
 rintro e w2 ⟨rfl, hb2⟩
 go_wp2_with fail
 refine hK.out _ _ (hH.trans (Below.mono hb2 hH.size)) (fun hH => ?_)
 clear hK K
 try simp only [Act.put]
 refine rd1 (i := 7) (by kernel_rfl) rfl (fun K hK => ?_)
 rw [if_pos (by kernel_rfl)]
 go_simp
 go_at_call 68
 refine (HL1.out _).mono ?_
 rintro e w3 ⟨rfl, hb3⟩
 go_wp2_with fail
 refine hK.out _ _ (hH.trans (Below.mono hb3 hH.size)) (fun hH => ?_)
 clear hK K
 try simp only [Act.put]
 refine tk_ (i := 8) (v := .string (⟨E0.toArray⟩ ++ ⟨E1.toArray⟩)) rfl (Or.inl ⟨by kernel_rfl, fun w' hw' => by clear hw'; go_simp⟩) hH ?_
 simp only [Act.put]
 refine rd1 (i := 11) (by kernel_rfl) rfl (fun K hK => ?_)
 rw [if_pos (by kernel_rfl)]
 go_simp
 go_at_call 68
 refine (HL2.out _).mono ?_
 rintro e w4 ⟨rfl, hb4⟩
 go_wp2_with fail
 refine hK.out _ _ (hH.trans (Below.mono hb4 hH.size)) (fun hH => ?_)
 clear hK K
 try simp only [Act.put]
 refine tk_ (i := 12) (v := .string (⟨E0.toArray⟩ ++ ⟨E1.toArray⟩ ++ ⟨E2.toArray⟩)) rfl (Or.inl ⟨by kernel_rfl, fun w' hw' => by clear hw'; go_simp⟩) hH ?_
 simp only [Act.put]
 refine rd1 (i := 13) (by kernel_rfl) rfl (fun K hK => ?_)
 rw [if_pos (by kernel_rfl)]
 go_simp
 refine hK.out _ _ hH (fun hH => ?_)
 clear hK K
 try simp only [Act.put]
 refine wpAnyH_done (by kernel_rfl) ?_ _
 try simp only [Act.put]
 go_wp2_with fail
 go_ret
 exact ⟨rfl, HB0.out.trans (hH.mono HB0.out.size)⟩
theorem mlmark_any (m : Mk) (hm : m.ok) (w : World) : Calls Tryz.prog 41 #[m.val] w (SE w (le m.opn.toNat 8 ++ le m.view.toNat 8 ++ le m.sum 8)) := by
 obtain ⟨x0, e0, b0⟩ := nat_of (z := m.opn) hm.o
 obtain ⟨x1, e1, b1⟩ := nat_of (z := m.view) hm.v
 obtain ⟨mo, mv, ms⟩ := m
 simp only at e0 e1
 subst e0 e1
 exact mlmark_go x0 x1 ms w (u64_fit x0 b0) (u64_fit x1 b1)
theorem mltext_any (s : ByteArray) (w : World) (h : s.size ≤ 65535) : Calls Tryz.prog 42 #[.string s] w (SE w (txt (sb s))) := by
 have HL := hid (fun W => mlay_any s.size 2 W (by omega))
 have hu : IntKind.u64.wrap (s.size : Int) = (s.size : Int) := u64_fit _ (by omega)
 have h2 := le_len 2 s.size
 have htx : txt (sb s) = le s.size 2 ++ sb s := by unfold txt; rw [sb_len]
 have hcat : (⟨(le s.size 2 ++ sb s).toArray⟩ : ByteArray) = ⟨(le s.size 2).toArray⟩ ++ s := by rw [← cat_mk, mk_sb]
 unfold SE
 rw [htx, hcat]
 clear htx hcat
 generalize le s.size 2 = E0 at *
 have hq2 : ¬ (9223372036854775807 < E0.length + s.size) := by omega
 clear h2
 go_enter Tryz.func42, Tryz.ntmps42
 go_wp2_with (go_at_call 68; refine (HL.out _).mono ?_; rintro e w2 ⟨rfl, hb2⟩; have HB2 := hid hb2; clear hb2)
 go_ret
 exact ⟨rfl, HB2.out⟩
theorem mpack_go (p ps pb : Nat) (mo mv : Int) (ms : Nat) (P1 P2 : ByteArray) (E0 E1 E2 : List UInt8) (w : World) (hr : Row w p 70 [.int .i64 mo, .int .i64 mv, .int .u64 (ms : Int), .pointer (some ⟨ps, 0, none⟩), .pointer (some ⟨pb, 0, none⟩)])
  (HM : Hid (∀ W : World, Calls Tryz.prog 41 #[.agg #[.int .i64 mo, .int .i64 mv, .int .u64 (ms : Int)]] W (SE W E0)))
  (HP : Hid (∀ W : World, Below w.heap.size w W → Calls Tryz.prog 43 #[.pointer (some ⟨ps, 0, none⟩)] W (VE W (.string P1))))
  (HT : Hid (∀ W : World, Calls Tryz.prog 42 #[.string P1] W (SE W E1)))
  (HQ : Hid (∀ W : World, Below w.heap.size w W → Calls Tryz.prog 44 #[.pointer (some ⟨pb, 0, none⟩)] W (VE W (.string P2))))
  (HU : Hid (∀ W : World, Calls Tryz.prog 42 #[.string P2] W (SE W E2))) (hl : E0.length + E1.length + E2.length ≤ 1000000) :
  Calls Tryz.prog 21 #[.pointer (some ⟨p, 0, none⟩)] w (SE w (E0 ++ E1 ++ E2)) := by
 have HR := hid hr
 have HZM := hid msize
 unfold SE
 rw [← cat_mk, ← cat_mk]
 have hq2 : ¬ (9223372036854775807 < E0.length + E1.length) := by omega
 have hq3 : ¬ (9223372036854775807 < E0.length + E1.length + E2.length) := by omega
 have hq3' : ¬ (9223372036854775807 < E0.length + (E1.length + E2.length)) := by omega
 clear hr hl
 go_enter Tryz.func21, Tryz.ntmps21
 go_wp2_with fail
 try simp only [Act.put]
 refine wp_region_held_drew (S := fun W => Below (w).heap.size (w) W) (by kernel_rfl) ((Below.refl _ _).drew) (fun hH => ?_)
 refine tk_ (i := 0) (v := .pointer (some ⟨p, 0, none⟩)) rfl (Or.inl ⟨by kernel_rfl, fun w' hw' => by clear hw'; go_simp⟩) hH ?_
 simp only [Act.put]
 refine tk_ (i := 1) (v := .pointer (some ⟨p, 0, none⟩)) rfl (Or.inl ⟨by kernel_rfl, fun w' hw' => by clear hw'; go_simp⟩) hH ?_
 simp only [Act.put]
 refine tk_ (i := 2) (v := .pointer (some ⟨p, 0, none⟩)) rfl (Or.inl ⟨by kernel_rfl, fun w' hw' => by clear hw'; go_simp⟩) hH ?_
 simp only [Act.put]
 refine tk_ (i := 3) (v := .agg #[.int .i64 mo, .int .i64 mv, .int .u64 (ms : Int)]) rfl ?_ hH ?_
 ·
  refine yieldsIf_load_mid ?_ 41 (.tmp 8) ?_ p 0 ?_ [.int .i64 mo, .int .i64 mv, .int .u64 (ms : Int)] _ (fun W hW => Row.pre (xs := [.int .i64 mo, .int .i64 mv, .int .u64 (ms : Int)]) (ys := [.pointer (some ⟨ps, 0, none⟩), .pointer (some ⟨pb, 0, none⟩)]) (HR.out.below hW HR.out.lt)) Tryz.underlying41 rfl HZM.out
  all_goals kernel_rfl
 simp only [Act.put]
 refine tk_ (i := 5) (v := .pointer (some ⟨p, 0, none⟩)) rfl (Or.inl ⟨by kernel_rfl, fun w' hw' => by clear hw'; go_simp⟩) hH ?_
 simp only [Act.put]
 refine tk_ (i := 6) (v := .pointer (some ⟨p, 0, none⟩)) rfl (Or.inl ⟨by kernel_rfl, fun w' hw' => by clear hw'; go_simp⟩) hH ?_
 simp only [Act.put]
 refine tk_ (i := 7) (v := .pointer (some ⟨p, 3, none⟩)) rfl (Or.inl ⟨by kernel_rfl, fun w' hw' => by clear hw'; go_simp⟩) hH ?_
 simp only [Act.put]
 refine tk_ (i := 8) (v := .pointer (some ⟨ps, 0, none⟩)) rfl (Or.inl ⟨by kernel_rfl, fun w' hw' => by have h := (HR.out.below hw' HR.out.lt).at_ 3 _ rfl; clear hw'; go_simp⟩) hH ?_
 simp only [Act.put]
 refine tk_ (i := 12) (v := .pointer (some ⟨p, 0, none⟩)) rfl (Or.inl ⟨by kernel_rfl, fun w' hw' => by clear hw'; go_simp⟩) hH ?_
 simp only [Act.put]
 refine tk_ (i := 13) (v := .pointer (some ⟨p, 0, none⟩)) rfl (Or.inl ⟨by kernel_rfl, fun w' hw' => by clear hw'; go_simp⟩) hH ?_
 simp only [Act.put]
 refine tk_ (i := 14) (v := .pointer (some ⟨p, 4, none⟩)) rfl (Or.inl ⟨by kernel_rfl, fun w' hw' => by clear hw'; go_simp⟩) hH ?_
 simp only [Act.put]
 refine tk_ (i := 15) (v := .pointer (some ⟨pb, 0, none⟩)) rfl (Or.inl ⟨by kernel_rfl, fun w' hw' => by have h := (HR.out.below hw' HR.out.lt).at_ 4 _ rfl; clear hw'; go_simp⟩) hH ?_
 simp only [Act.put]
 refine rd1 (i := 4) (by kernel_rfl) rfl (fun K hK => ?_)
 rw [if_pos (by kernel_rfl)]
 go_simp
 go_at_call 41
 refine (HM.out _).mono ?_
 rintro e w2 ⟨rfl, hb2⟩
 go_wp2_with fail
 refine hK.out _ _ (hH.trans (Below.mono hb2 hH.size)) (fun hH => ?_)
 clear hK K
 try simp only [Act.put]
 refine rd1 (i := 9) (by kernel_rfl) rfl (fun K hK => ?_)
 rw [if_pos (by kernel_rfl)]
 go_simp
 go_at_call 43
 refine (HP.out _ hH).mono ?_
 rintro e w3 ⟨rfl, hb3⟩
 go_wp2_with fail
 refine hK.out _ _ (hH.trans (Below.mono hb3 hH.size)) (fun hH => ?_)
 clear hK K
 try simp only [Act.put]
 refine rd1 (i := 10) (by kernel_rfl) rfl (fun K hK => ?_)
 rw [if_pos (by kernel_rfl)]
 go_simp
 go_at_call 42
 refine (HT.out _).mono ?_
 rintro e w4 ⟨rfl, hb4⟩
 go_wp2_with fail
 refine hK.out _ _ (hH.trans (Below.mono hb4 hH.size)) (fun hH => ?_)
 clear hK K
 try simp only [Act.put]
 refine tk_ (i := 11) (v := .string (⟨E0.toArray⟩ ++ ⟨E1.toArray⟩)) rfl (Or.inl ⟨by kernel_rfl, fun w' hw' => by clear hw'; go_simp⟩) hH ?_
 simp only [Act.put]
 refine rd1 (i := 16) (by kernel_rfl) rfl (fun K hK => ?_)
 rw [if_pos (by kernel_rfl)]
 go_simp
 go_at_call 44
 refine (HQ.out _ hH).mono ?_
 rintro e w5 ⟨rfl, hb5⟩
 go_wp2_with fail
 refine hK.out _ _ (hH.trans (Below.mono hb5 hH.size)) (fun hH => ?_)
 clear hK K
 try simp only [Act.put]
 refine rd1 (i := 17) (by kernel_rfl) rfl (fun K hK => ?_)
 rw [if_pos (by kernel_rfl)]
 go_simp
 go_at_call 42
 refine (HU.out _).mono ?_
 rintro e w6 ⟨rfl, hb6⟩
 go_wp2_with fail
 refine hK.out _ _ (hH.trans (Below.mono hb6 hH.size)) (fun hH => ?_)
 clear hK K
 try simp only [Act.put]
 refine tk_ (i := 18) (v := .string (⟨E0.toArray⟩ ++ ⟨E1.toArray⟩ ++ ⟨E2.toArray⟩)) rfl (Or.inl ⟨by kernel_rfl, fun w' hw' => by clear hw'; go_simp⟩) hH ?_
 simp only [Act.put]
 refine rd1 (i := 19) (by kernel_rfl) rfl (fun K hK => ?_)
 rw [if_pos (by kernel_rfl)]
 go_simp
 refine hK.out _ _ hH (fun hH => ?_)
 clear hK K
 try simp only [Act.put]
 refine wpAnyH_done (by kernel_rfl) ?_ _
 try simp only [Act.put]
 go_wp2_with fail
 go_ret
 exact ⟨rfl, hH⟩
theorem mpack_any (p : Nat) (S : Ma) (fp : List Nat) (w : World) (hS : S.WF) (h : Hm KP p S fp w) : Calls Tryz.prog 21 #[.pointer (some ⟨p, 0, none⟩)] w (SE w S.pack) := by
 obtain ⟨ps, pb, h⟩ := h
 obtain ⟨fs, hs⟩ := h.s
 obtain ⟨fb, hb⟩ := h.b
 have hp1 := pack8_le hS.w.t
 have hp2 := pack_len S.w.B hS.w.b
 have h3 := hS.w.b.la
 have h4 := hS.w.b.lt
 have HM := hid (fun W => mlmark_any S.m hS.m W)
 have hl0 : (le S.m.opn.toNat 8 ++ le S.m.view.toNat 8 ++ le S.m.sum 8).length = 24 := by simp [le_len]
 have HP := hid (fun W (hW : Below w.heap.size w W) => show Calls Tryz.prog 43 #[.pointer (some ⟨ps, 0, none⟩)] W (VE W (.string ⟨(pack S.w.T).toArray⟩)) from pack_any8 ps fs S.w.T W (hs.below hW))
 have HQ := hid (fun W (hW : Below w.heap.size w W) => show Calls Tryz.prog 44 #[.pointer (some ⟨pb, 0, none⟩)] W (VE W (.string ⟨S.w.B.pack.toArray⟩)) from pack_gk (p := pb) (fp := fb) (S := S.w.B) (w := W) (hb.below hW))
 have HT := hid (fun W => mltext_any ⟨(pack S.w.T).toArray⟩ W (by rw [← sb_len, sb_mk]; omega))
 have HU := hid (fun W => mltext_any ⟨S.w.B.pack.toArray⟩ W (by rw [← sb_len, sb_mk]; omega))
 rw [sb_mk] at HT HU
 obtain ⟨⟨mo, mv, ms⟩, M⟩ := S
 exact mpack_go p ps pb mo mv ms _ _ _ _ _ w h.row HM HP HT HQ HU (by rw [hl0]; unfold txt; simp only [List.length_append, le_len]; simp only at hp1 hp2 h3 h4; omega)
def awE : En := ⟨0, 0, 0, 0, 7, 0, 0, 1, ⟨#[]⟩⟩
def awE1 : En := ⟨0, 1, 0, 0, 7, 0, 0, 1, ⟨#[]⟩⟩
def awA : An := ⟨1, 7, 1, 0, 1, ⟨#[]⟩⟩
theorem awE1_rt : Rt awE1 := by unfold Rt awE1; decide
theorem awE1_fits : awE1.fits := by
 refine ⟨⟨⟨?_, ?_⟩, ⟨?_, ?_⟩, ⟨?_, ?_⟩, ⟨?_, ?_⟩⟩, ⟨⟨?_, ?_⟩, ⟨?_, ?_⟩, ⟨?_, ?_⟩⟩, ?_⟩ <;> decide
theorem aw_e1 : ma0.appE awE1 = 0 := appE_ok ⟨awE1_rt, rfl, rfl, rfl⟩
theorem aw_a1 : ma0.appA awE1 = awA := by unfold Ma.appA; rw [if_pos aw_e1]; rfl
theorem aw_m1 : ∃ x : Nat, markE awE1 = ⟨1, 0, x⟩ ∧ x < 18446744073709551616 := by
 obtain ⟨h1, h2, h3⟩ := markE_rt awE1_fits awE1_rt
 rcases hm : markE awE1 with ⟨o, v, s⟩
 rw [hm] at h1 h2 h3
 simp only at h1 h2 h3
 subst h1 h2
 exact ⟨s, rfl, h3⟩
theorem aw_app1 {x : Nat} (hm : markE awE1 = ⟨1, 0, x⟩) : ma0.app awE1 = ⟨⟨1, 0, x⟩, ⟨[fresh 7 1], Lg.nil⟩⟩ := by
 unfold Ma.app
 rw [if_pos aw_e1]
 unfold Ma.run
 rw [hm]
 rfl
def awE2 (x : Nat) : En := ⟨0, 2, 0, x, 7, 0, 0, 1, ⟨#[]⟩⟩
theorem awE20_rt : Rt (awE2 0) := by unfold Rt awE2; decide
theorem awE20_fits : (awE2 0).fits := by
 refine ⟨⟨⟨?_, ?_⟩, ⟨?_, ?_⟩, ⟨?_, ?_⟩, ⟨?_, ?_⟩⟩, ⟨⟨?_, ?_⟩, ⟨?_, ?_⟩, ⟨?_, ?_⟩⟩, ?_⟩ <;> decide
theorem awE2_rt (x : Nat) : Rt (awE2 x) := awE20_rt
theorem awE2_fits {x : Nat} (h : x < 18446744073709551616) : (awE2 x).fits := ⟨awE20_fits.1, awE20_fits.2.1, h⟩
theorem aw_e2 (x : Nat) : (⟨⟨1, 0, x⟩, ⟨[fresh 7 1], Lg.nil⟩⟩ : Ma).appE (awE2 x) = 0 := appE_ok ⟨awE2_rt x, rfl, rfl, rfl⟩
theorem aw_a2 (x : Nat) : (⟨⟨1, 0, x⟩, ⟨[fresh 7 1], Lg.nil⟩⟩ : Ma).appA (awE2 x) = awA := by unfold Ma.appA; rw [if_pos (aw_e2 x)]; rfl
theorem in_size : (⟨#[]⟩ : ByteArray).size ≤ 281474976710656 := by decide
theorem mawake_any (w : World) (hf : Fd w) : Calls Tryz.prog 4 #[] w (Yes w) := by
 have HNW := hid (fun W => mnew_any W)
 have HZ := hid asize
 have HZE := hid esize
 have HF := hid hf
 obtain ⟨x, hm, hx⟩ := aw_m1
 have HN1 : Hid (∀ W : World, Calls Tryz.prog 23 #[.agg #[.int .i64 0, .int .i64 0, .int .u64 0], .agg #[.int .i64 0, .int .i64 0, .int .i64 0, .int .u64 0, .int .i64 7, .int .i64 0, .int .i64 0, .int .i64 1, .string ⟨#[]⟩]] W (VE W (.agg #[.int .i64 0, .int .i64 1, .int .i64 0, .int .u64 ((0 : Nat) : Int), .int .i64 7, .int .i64 0, .int .i64 0, .int .i64 1, .string ⟨#[]⟩]))) := hid fun W => next_any mk0 awE W in_size
 have HN2 : Hid (∀ W : World, Calls Tryz.prog 23 #[.agg #[.int .i64 1, .int .i64 0, .int .u64 (x : Int)], .agg #[.int .i64 0, .int .i64 0, .int .i64 0, .int .u64 0, .int .i64 7, .int .i64 0, .int .i64 0, .int .i64 1, .string ⟨#[]⟩]] W (VE W (.agg #[.int .i64 0, .int .i64 2, .int .i64 0, .int .u64 (x : Int), .int .i64 7, .int .i64 0, .int .i64 0, .int .i64 1, .string ⟨#[]⟩]))) := hid fun W => next_any ⟨1, 0, x⟩ awE W in_size
 have HMK : Hid (∀ W : World, Fd W → Calls Tryz.prog 24 #[.agg #[.int .i64 0, .int .i64 1, .int .i64 0, .int .u64 ((0 : Nat) : Int), .int .i64 7, .int .i64 0, .int .i64 0, .int .i64 1, .string ⟨#[]⟩]] W (VE W (.agg #[.int .i64 1, .int .i64 0, .int .u64 (x : Int)]))) := hid fun W hW => by
  have := emark_any awE1 awE1_fits W hW
  rw [hm] at this
  exact this
 have HA1 : Hid (∀ p fp W, Fd W → Hm KP p ma0 fp W → Calls Tryz.prog 8 #[.pointer (some ⟨p, 0, none⟩), .agg #[.int .i64 0, .int .i64 1, .int .i64 0, .int .u64 ((0 : Nat) : Int), .int .i64 7, .int .i64 0, .int .i64 0, .int .i64 1, .string ⟨#[]⟩]] W fun e w' => e = .returned (.tuple #[.agg #[.int .i64 1, .int .i64 7, .int .i64 1, .int .i64 0, .int .i64 1, .string ⟨#[]⟩], .int .i64 0]) ∧ Hmw KP p W fp ⟨⟨1, 0, x⟩, ⟨[fresh 7 1], Lg.nil⟩⟩ w') := hid fun p fp W hW hk => by
  have := mapp_any p ma0 fp awE1 W awE1_fits hW hk
  rw [aw_e1, aw_a1, aw_app1 hm] at this
  exact this
 have HA2 : Hid (∀ p fp W, Fd W → Hm KP p ⟨⟨1, 0, x⟩, ⟨[fresh 7 1], Lg.nil⟩⟩ fp W → Calls Tryz.prog 8 #[.pointer (some ⟨p, 0, none⟩), .agg #[.int .i64 0, .int .i64 2, .int .i64 0, .int .u64 (x : Int), .int .i64 7, .int .i64 0, .int .i64 0, .int .i64 1, .string ⟨#[]⟩]] W fun e w' => e = .returned (.tuple #[.agg #[.int .i64 1, .int .i64 7, .int .i64 1, .int .i64 0, .int .i64 1, .string ⟨#[]⟩], .int .i64 0]) ∧ Hmw KP p W fp (Ma.app ⟨⟨1, 0, x⟩, ⟨[fresh 7 1], Lg.nil⟩⟩ (awE2 x)) w') := hid fun p fp W hW hk => by
  have := mapp_any p _ fp (awE2 x) W (awE2_fits hx) hW hk
  rw [aw_e2, aw_a2] at this
  exact this
 clear hf hm hx
 generalize (⟨⟨1, 0, x⟩, ⟨[fresh 7 1], Lg.nil⟩⟩ : Ma) = S1 at *
 generalize Ma.app S1 (awE2 x) = S2 at *
 go_enter Tryz.func4, Tryz.ntmps4
 go_wp2_with (first
  | (go_at_call 6; refine (HNW.out _).mono ?_; rintro e w1 ⟨p, fp, rfl, hk, hf1, hb1⟩; have HS := hid (Sg.mk' (w0 := w) (Below.refl _ _) hk hf1 hb1); clear hk hf1 hb1 HNW)
  | (go_at_call 23; have H1 := HN1.out; clear HN1; refine (H1 _).mono ?_; rintro e w2 ⟨rfl, hb2⟩; replace HS := hid (HS.out.below hb2); clear hb2 H1)
  | (refine wpl_store_st rfl (.tmp 2) (.tmp 10) rfl HZE.out w2.heap.size (#[.int .i64 0, .int .i64 0, .int .i64 0, .int .u64 0, .int .i64 0, .int .i64 0, .int .i64 0, .int .i64 0, .string ⟨#[]⟩] : Array Value).toList (#[.int .i64 0, .int .i64 1, .int .i64 0, .int .u64 ((0 : Nat) : Int), .int .i64 7, .int .i64 0, .int .i64 0, .int .i64 1, .string ⟨#[]⟩] : Array Value).toList rfl rfl (Row.new _ _ _) ?_ (hid rfl) (hid rfl) (hid rfl); intro w3 hr3 hg3; have HR3 := hid hr3; replace HS := hid (HS.out.add (((Below.refl w2.heap.size w2).alloc (Nat.le_refl _) (.cells #[.int .i64 0, .int .i64 0, .int .i64 0, .int .u64 0, .int .i64 0, .int .i64 0, .int .i64 0, .int .i64 0, .string ⟨#[]⟩] 31)).trans (below_grown hg3 (Nat.le_refl _) (by simp))) (Nat.le_refl _) hr3.lt); clear hr3 hg3)
  | (refine wpList_load_row rfl 31 (.tmp 2) rfl w2.heap.size rfl 31 #[.int .i64 0, .int .i64 1, .int .i64 0, .int .u64 ((0 : Nat) : Int), .int .i64 7, .int .i64 0, .int .i64 0, .int .i64 1, .string ⟨#[]⟩] (0, 0) _ HR3.out.arr Tryz.underlying31 rfl HZE.out ?_)
  | (go_at_call 8; have H1 := HA1.out; clear HA1; refine (HS.out.call (fun fp hk => H1 p fp _ (HF.out.below HS.out.frame HF.out.1) hk)).mono ?_; rintro e w4 ⟨rfl, hs4, hk4⟩; replace HS := hid hs4; replace HR3 := hid (hk4.row HR3.out (by simp)); clear hs4 hk4 H1)
  | (refine wpl_store_st rfl (.tmp 3) (.tmp 15) rfl HZ.out w4.heap.size an0.cells.toList awA.cells.toList rfl rfl (Row.new _ _ _) ?_ (hid rfl) (hid rfl) (hid rfl); intro w5 hr5 hg5; have HR5 := hid hr5; have HB5 := hid (((Below.refl w4.heap.size w4).alloc (Nat.le_refl _) (.cells an0.cells 33)).trans (below_grown hg5 (Nat.le_refl _) (by simp))); replace HR3 := hid (HR3.out.below HB5.out HR3.out.lt); replace HS := hid (HS.out.add HB5.out (Nat.le_refl _) hr5.lt); clear hr5 hg5)
  | (go_at_call 24; refine (HMK.out _ (HF.out.below HS.out.frame HF.out.1)).mono ?_; rintro e w6 ⟨rfl, hb6⟩; replace HS := hid (HS.out.below hb6); replace HR5 := hid (HR5.out.below hb6 HR5.out.lt); clear hb6 HR3)
  | (go_at_call 23; refine (HN2.out _).mono ?_; rintro e w7 ⟨rfl, hb7⟩; replace HS := hid (HS.out.below hb7); replace HR5 := hid (HR5.out.below hb7 HR5.out.lt); clear hb7)
  | (go_at_call 8; refine (HS.out.call (fun fp hk => HA2.out p fp _ (HF.out.below HS.out.frame HF.out.1) hk)).mono ?_; rintro e w8 ⟨rfl, hs8, hk8⟩; replace HS := hid hs8; replace HR5 := hid (hk8.row HR5.out (by simp)); clear hs8 hk8)
  | (refine wpl_store_st rfl (.tmp 5) (.tmp 24) rfl HZ.out w8.heap.size an0.cells.toList awA.cells.toList rfl rfl (Row.new _ _ _) ?_ (hid rfl) (hid rfl) (hid rfl); intro w9 hr9 hg9; have HR9 := hid hr9; have HB9 := hid (((Below.refl w8.heap.size w8).alloc (Nat.le_refl _) (.cells an0.cells 33)).trans (below_grown hg9 (Nat.le_refl _) (by simp))); replace HR5 := hid (HR5.out.below HB9.out HR5.out.lt); replace HS := hid (HS.out.below HB9.out); clear hr9 hg9)
  | (refine wpl_load_want (by kernel_rfl) 33 (.tmp 3) rfl w4.heap.size rfl 33 awA.cells (0, 0) _ HR5.out.arr Tryz.underlying33 rfl HZ.out ?_)
  | (refine wpl_load_want (by kernel_rfl) 33 (.tmp 5) rfl w8.heap.size rfl 33 awA.cells (0, 0) _ HR9.out.arr Tryz.underlying33 rfl HZ.out ?_)
  | (refine wpl_eqa (by kernel_rfl) awA (.tmp 33) (.tmp 34) 33 rfl rfl rfl ?_)
  | (refine wpl_eqa (by kernel_rfl) awA (.tmp 38) (.tmp 39) 33 rfl rfl rfl ?_))
 go_ret
 exact ⟨rfl, HS.out.frame⟩
end Go.Proofs.YtgednnjmcjhfmaaGreatDoor
