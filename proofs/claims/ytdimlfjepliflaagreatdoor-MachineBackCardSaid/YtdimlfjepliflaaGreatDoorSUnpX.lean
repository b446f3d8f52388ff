/-
  The walk of package session's Unpack, over what Pack answers.
-/
import Derived.Test.YtdimlfjepliflaaGreatDoorD18
import Derived.Great.BuildSlice
import Derived.Test.YtdimlfjepliflaaGreatDoorLiftX
import Derived.Test.YtdimlfjepliflaaGreatDoorEvX
import Derived.Test.YtdimlfjepliflaaGreatDoorLgX
import Derived.Test.YtdimlfjepliflaaGreatDoorHubX
import Derived.Test.YtdimlfjepliflaaGreatDoorSTtextX
import Derived.Test.YtdimlfjepliflaaGreatDoorSTbX
import Derived.Test.YtdimlfjepliflaaGreatDoorSTkeX
namespace Go.Proofs.YtdimlfjepliflaaGreatDoor
open Go.RowKit
set_option maxRecDepth 10000

theorem Row.own5 {w : World} {g B n m : Nat} {e : TypeId} {cs : List Value} (h : Row w g e cs) (hB : B ≤ g) (hn : cs.length = n * m) (hm : n ≤ maxLen) : w.ownsRow B e m (.slice (some ⟨g, 0, none⟩) n n) n cs :=
  ⟨hn, .inr ⟨g, n, cs.toArray, rfl, hB, h, Nat.le_refl _, hm, by simpa using hn, by simpa using List.take_of_length_le (by omega)⟩⟩
theorem FRow.rdb {w : World} {g B k : Nat} {e : TypeId} {bs : List UInt8} {z : Value} (h : FRow w g e (bvs bs ++ List.replicate k z)) (hB : g < B) : Rd w B (some ⟨g, 0, none⟩) (bvs bs) := by
  have h1 := (h.rd hB).take (bvs bs).length
  rw [List.take_left] at h1
  exact h1
/-- pack, around the session at k -/
theorem pack_at (T : List Ss) (k : Nat) (h : k < T.length) : ∃ post, pack T = packK T k ++ ssB T[k] ++ post := by
  refine ⟨(T.drop (k + 1)).flatMap ssB, ?_⟩
  rw [← packK_step T k h]
  unfold pack packK
  conv => lhs; rw [← List.take_append_drop (k + 1) T]
  rw [List.flatMap_append]
  simp
theorem count_le (n : Nat) (h : n ≤ 3) (r : List UInt8) : takeS (UInt8.ofNat n :: r) ((0 : Nat) : Int) ((1 : Nat) : Int) = (n, 0) :=
  takeS_le _ 0 1 n (by simp [le]) (by omega) (by show n < 2 ^ 8; omega)
set_option maxHeartbeats 4000000 in
theorem unpack_yes8 (T : List Ss) (hT : WF T) (s : ByteArray) (hs : sb s = pack T) (w : World) :
    Calls Tryz.prog 59 #[.string s] w (NG8 121 w T (fun p => .tuple #[.pointer (some ⟨p, 0, none⟩), .int .i64 0])) := by
  obtain ⟨i0, hi, hz0, hz1, hz2⟩ := info_parts ssInfo
  have hw := hT.le
  have hsz : s.size = (pack T).length := by rw [← hs, sb_len]
  have hpl : (pack T).length ≤ 703 := by
    rw [← packK_all]
    have := packK_le hT T.length
    omega
  have HLE := hid (fun k => packK_le hT k)
  have HTK := hid (fun A cap B W (hr : Rd W B A (bvs (pack T))) (hc : s.size ≤ cap) hB => take_any A (pack T) s.size cap B ((0 : Nat) : Int) ((1 : Nat) : Int) W hr hsz (by omega) hc hB)
  rw [show takeS (pack T) ((0 : Nat) : Int) ((1 : Nat) : Int) = (T.length, 0) from count_le _ hw _] at HTK
  have HTC : Hid (∀ A cap B W, Rd W B A (bvs (pack T)) → s.size ≤ cap → B ≤ W.heap.size → Calls Tryz.prog 97 #[.slice A s.size cap, .int .i64 0, .int .i64 1] W (NE W (T.length, 0))) := hid HTK.out
  have HTS : Hid (∀ k (hk : k < T.length) A cap B W, Rd W B A (bvs (pack T)) → s.size ≤ cap → B ≤ W.heap.size → Calls Tryz.prog 98 #[.slice A s.size cap, .int .i64 ((packK T k).length : Int)] W (SP W (Ss.cells T[k]) (packK T (k + 1)).length)) := hid (by
    intro k hk A cap B W hr hc hB
    obtain ⟨post, hp⟩ := pack_at T k hk
    rw [packK_step T k hk, List.length_append, ssB_len, ← Nat.add_assoc]
    exact tks_any A (packK T k) post T[k] s.size cap B W (hT.ok _ (List.getElem_mem hk)) (by rw [← hp]; exact hr) (by rw [hsz, hp]) hc hB (by omega))
  have HFR : Hid (∀ W g k (z : Value), FRow W g 5 (bvs (sb s) ++ List.replicate k z) → Rd W (g + 1) (some ⟨g, 0, none⟩) (bvs (pack T))) := hid (by
    intro W g k z h
    rw [hs] at h
    exact h.rdb (Nat.lt_succ_self _))
  have HPK0 : Hid ((packK T 0).length = 1) := hid rfl
  have HPKN : Hid ((packK T T.length).length = s.size) := hid (by rw [packK_all, hsz])
  have HROWS : Hid ((T.map Ss.cells).flatten = rows Ss.cells T) := hid rfl
  have HXL : Hid ((T.map Ss.cells).length = T.length) := hid (List.length_map ..)
  have HX5 : Hid (∀ r ∈ T.map Ss.cells, r.length = 5) := hid (by intro r hr; obtain ⟨x, _, rfl⟩ := List.mem_map.1 hr; exact Ss.len x)
  have HXG : Hid (∀ k (hk : k < T.length), (T.map Ss.cells)[k]? = some (Ss.cells T[k])) := hid (by intro k hk; rw [List.getElem?_map, List.getElem?_eq_getElem hk]; rfl)
  have HZ := hid ssSize
  have HT := hid hT
  have hs700 : s.size ≤ 703 := by omega
  obtain ⟨n, hn⟩ : ∃ n, T.length = n := ⟨_, rfl⟩
  have HN := hid hn
  rw [hn] at HTC hw HPKN HXL
  have hbl : ¬ (3 < (n : Int)) := by omega
  have hb2 : i0.bytes * n ≤ 281474976710656 := by rw [hz2]; omega
  have HB2 := hid hb2
  clear hT hs hsz hpl HTK hn hb2
  go_enter Tryz.func59, Tryz.ntmps59
  go_wp2_with (first
    | (refine wpl_bytes rfl (.tmp 10) 9 93 rfl 5 Tryz.underlying9 Tryz.underlying93 Tryz.underlying5 s rfl ?_; intro g c k1 w1 hg1 hc1 hr1 hb1; have HRD1 := hid (HFR.out _ _ _ _ hr1); have HB1 := hid hb1; have HL1 := hid hr1.lt; have HC1 := hid hc1.out; clear hr1 hb1 hc1)
    | (go_at_call 97; refine (HTC.out _ _ _ _ HRD1.out HC1.out (by have := HL1.out; omega)).mono ?_; rintro e w2 ⟨rfl, hb2⟩; have HB2' := hid hb2; clear hb2)
    | (refine wpl_make_big rfl (.tmp 23) (.tmp 23) 48 rfl 65 i0 _ ss0.cells Tryz.underlying48 hi hz0 hz1 rfl (by decide) .u64 .u64 (n : Int) (n : Int) n rfl rfl ?_ (hid rfl) (hid rfl) HB2 (hid (le_maxLen (by omega))); intro g2 w3 hg2 hr3 hgr3; have HR3 := hid hr3; have HG3 := hid hgr3; clear hr3 hgr3))
  have HS2 : Hid (w1.heap.size ≤ g2) := hid (by rw [hg2.out]; exact HB2'.out.size)
  have HS3 : Hid (Below w1.heap.size w1 w3) := hid (HB2'.out.trans ((Below.refl _ _).grown HG3.out HB2'.out.size (by intro k hk; cases hk)))
  have hgg : ¬ g2 = g := by have := HS2.out; have := HL1.out; omega
  clear hg2 HB2' HG3
  go_loopw [8, 27] (fun av iv wr => ∃ k q : Nat, k ≤ n ∧ Hid (q = (packK T k).length) ∧ iv = .int .i64 ((k : Nat) : Int) ∧ av = .int .i64 ((q : Nat) : Int) ∧ Hid (Row wr g2 65 (part (T.map Ss.cells) ss0.cells n k).flatten) ∧ Below w1.heap.size w1 wr) (fun _ iv _ => n - (intOf iv).toNat)
  case atStart => exact ⟨0, 1, by omega, hid HPK0.out.symm, rfl, rfl, hid (by rw [part_zero]; exact HR3.out), HS3.out⟩
  case round =>
    obtain ⟨k, q, hk, HQ, rfl, rfl, HROW, hbe⟩ := hrel
    have HBE := hid hbe
    clear hbe
    by_cases hlt : k < n
    · have hkl : k < T.length := by rw [HN.out]; exact hlt
      have HTQ := hid (HTS.out k hkl (some ⟨g, 0, none⟩) c (g + 1) wr (HRD1.out.below HBE.out (by have := HL1.out; omega)) HC1.out (by have := HL1.out; have := HBE.out.size; omega))
      rw [← HQ.out] at HTQ
      have HV := hid (HXG.out k hkl)
      have HC1' : Hid ((Ss.cells T[k]).all (·.oneCell') = true) := hid (Ss.one _)
      have HC5 : Hid ((Ss.cells T[k]).length = 5) := hid (Ss.len _)
      have hqb : (packK T (k + 1)).length ≤ 703 := Nat.le_trans (HLE.out (k + 1)) (by omega)
      obtain ⟨q2, hq2⟩ : ∃ q2, (packK T (k + 1)).length = q2 := ⟨_, rfl⟩
      have HQ2 := hid hq2.symm
      rw [hq2] at hqb HTQ
      generalize Ss.cells T[k] = X at *
      have hi0 : (0 : Int) ≤ (k : Int) := by omega
      have hi1 : (k : Int) < (n : Int) := by omega
      clear hq2
      go_wp2_with (first
        | (go_at_call 98; refine HTQ.out.mono ?_; rintro e w4 ⟨rfl, hb4⟩; have HB4 := hid hb4; have HR4 := hid (HROW.out.below hb4 HROW.out.lt); clear hb4)
        | (refine wpl_store_part rfl (.tmp 39) (.tmp 36) rfl HZ.out g2 k n _ _ X rfl rfl HR4.out ?_ HXL HX5 (hid rfl) (hid hlt) HV HC1'; intro w5 hr5 hg5))
      refine ⟨⟨k + 1, q2, by omega, HQ2, by go_num, rfl, hid hr5, ?_⟩, by simp [intOf]; omega⟩
      have hb6 := HBE.out.trans (HB4.out.mono HBE.out.size)
      exact hb6.trans (below_grown hg5 HS2.out hb6.size)
    · obtain rfl : k = n := by omega
      have HQS : Hid (q = s.size) := hid (by rw [HQ.out]; exact HPKN.out)
      rw [HQS.out]
      have HWR := hid HROW.out.lt
      go_wp2_with fail
      go_ret2
      have hrow := HROW.out
      rw [part_all HXL.out, HROWS.out] at hrow
      have hsz : w.heap.size ≤ w1.heap.size := HB1.out.size
      refine ⟨wr.heap.size, fpT wr.heap.size (.slice (some ⟨g2, 0, none⟩) k k), rfl, ⟨_, rfl, ⟨Row.new wr _ #[_], ?_, HT.out, by decide⟩⟩, ?_, ?_⟩
      · rw [HN.out]
        exact (hrow.alloc _).own5 (Nat.zero_le _) (by rw [rows_len (C := Ss.cells) Ss.len, HN.out]) (le_maxLen (by omega))
      · intro b hb
        have h1 := HBE.out.size
        have h2 := HS2.out
        rcases fpT_mem.1 hb with rfl | hb
        · omega
        · obtain rfl : g2 = b := by simpa [Value.ownBlock] using hb
          omega
      · exact (HB1.out.trans (HBE.out.mono hsz)).alloc (by have := HBE.out.size; omega) _
end Go.Proofs.YtdimlfjepliflaaGreatDoor
