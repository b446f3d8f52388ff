/-
  The walks of package head's numbers, header.
-/
import Derived.Test.YtdimlfjepliflaaGreatDoorD18
import Derived.Test.YtdimlfjepliflaaGreatDoorD01
namespace Go.Proofs.YtdimlfjepliflaaGreatDoor
open Go.RowKit
set_option maxRecDepth 10000

set_option maxHeartbeats 1000000 in
theorem numbers_any (h : Hd) (w : World) : Calls Tryz.prog 142 #[h.val] w (VE w (.agg (av h.nums).toArray)) := by
  obtain ⟨kind, frm, oper, view, opn, commit, client, session, request, a, b, parent⟩ := h
  show Calls Tryz.prog 142 #[.agg #[.int .i64 kind, .int .i64 frm, .int .i64 oper, .int .i64 view, .int .i64 opn, .int .i64 commit, .int .i64 client, .int .i64 session, .int .i64 request, .int .i64 a, .int .i64 b, .int .u64 (parent : Int)]] w _
  go_enter Tryz.func142, Tryz.ntmps142
  go_wp2_with fail
  have e : (av (Hd.nums ⟨kind, frm, oper, view, opn, commit, client, session, request, a, b, parent⟩)).toArray = #[.int .u64 0, .int .u64 (IntKind.u64.wrap kind), .int .u64 (IntKind.u64.wrap frm), .int .u64 (IntKind.u64.wrap oper), .int .u64 0, .int .u64 0, .int .u64 (parent : Int), .int .u64 (IntKind.u64.wrap view),
      .int .u64 (IntKind.u64.wrap opn), .int .u64 (IntKind.u64.wrap commit), .int .u64 (IntKind.u64.wrap client), .int .u64 (IntKind.u64.wrap session), .int .u64 (IntKind.u64.wrap request), .int .u64 (IntKind.u64.wrap a), .int .u64 (IntKind.u64.wrap b)] := by
    simp [av, Hd.nums, un_wrap]
  refine bodyPost_ret (v := .agg (av (Hd.nums ⟨kind, frm, oper, view, opn, commit, client, session, request, a, b, parent⟩)).toArray)
    (results_cell_row rfl _ _ (w.heap.size + 1) 187 (av (Hd.nums ⟨kind, frm, oper, view, opn, commit, client, session, request, a, b, parent⟩)).toArray (0, 0) _ rfl ?_ Tryz.underlying187 rfl (by kernel_rfl)) rfl ⟨rfl, ?_⟩
  · rw [e]
    exact alloc2_new _ _ _
  · exact ((Below.refl _ _).alloc (Nat.le_refl _) _).alloc (by simp) _
end Go.Proofs.YtdimlfjepliflaaGreatDoor
/-
  The walk of package head's Right.
-/
namespace Go.Proofs.YtdimlfjepliflaaGreatDoor
open Go.RowKit
set_option maxRecDepth 10000

theorem right_no (l : List Nat) (k : Nat) (hk : k < l.length) (h : mo k < l[k]) : ¬ Fits l := fun hf => by
  have := hf.2 k hk
  omega
set_option maxHeartbeats 1000000 in
theorem right_any (h : Hd) (w : World) (hf : Fd w) : Calls Tryz.prog 141 #[h.val] w (VE w (.bool (decide (Fits h.nums)))) := by
  have hl := nums_len h
  have HN := hid (fun W => numbers_any h W)
  have HF := hid hf
  clear hf
  obtain ⟨kind, frm, oper, view, opn, commit, client, session, request, a, b, parent⟩ := h
  have HN2 : Hid (∀ W : World, Calls Tryz.prog 142 #[.agg #[.int .i64 kind, .int .i64 frm, .int .i64 oper, .int .i64 view, .int .i64 opn, .int .i64 commit, .int .i64 client, .int .i64 session, .int .i64 request, .int .i64 a, .int .i64 b, .int .u64 (parent : Int)]] W (VE W (.agg (av (Hd.nums ⟨kind, frm, oper, view, opn, commit, client, session, request, a, b, parent⟩)).toArray))) := hid HN.out
  show Calls Tryz.prog 141 #[.agg #[.int .i64 kind, .int .i64 frm, .int .i64 oper, .int .i64 view, .int .i64 opn, .int .i64 commit, .int .i64 client, .int .i64 session, .int .i64 request, .int .i64 a, .int .i64 b, .int .u64 (parent : Int)]] w _
  generalize Hd.nums ⟨kind, frm, oper, view, opn, commit, client, session, request, a, b, parent⟩ = L at *
  clear HN
  have HL := hid hl
  clear hl
  go_enter Tryz.func141, Tryz.ntmps141
  go_wp2_with (go_at_call 142; refine (HN2.out _).mono ?_; rintro e w1 ⟨rfl, hb1⟩)
  have hb : Below w.heap.size w w1 := ((Below.refl _ _).alloc (Nat.le_refl _) _).trans (hb1.mono (by simp))
  have HF1 := hid (HF.out.below hb HF.out.1)
  have HB := hid hb
  clear hb hb1
  go_loop [7] (fun i => ∃ k : Nat, k ≤ 15 ∧ i = .int .i64 k ∧ Hid (∀ j (hj : j < L.length), j < k → L[j] ≤ mo j)) (fun i => 15 - (intOf i).toNat)
  case atStart => exact ⟨0, by omega, rfl, hid (fun j _ hj => by omega)⟩
  case round =>
    obtain ⟨k, hk, rfl, hpast⟩ := hrel
    by_cases hlt : k < 15
    · have hkl : k < L.length := by rw [HL.out]; exact hlt
      have hix := run_index_arr (P := Tryz.prog) w1 187 29 15 (av L).toArray .i64 k _ .u64 Tryz.underlying187 Tryz.underlying29 (by kernel_rfl) hlt (by simpa using av_get L k hkl)
      have hc := HF1.out.most hlt
      generalize hx : L[k] = x at hix
      generalize hm : mo k = m at hc
      have HX := hid hx
      have HM := hid hm
      clear hx hm
      by_cases hle : x ≤ m
      · go_wp2_with fail
        refine ⟨⟨k + 1, by omega, by go_num, hid (fun j hj hjk => ?_)⟩, by simp [intOf]; omega⟩
        by_cases e : j = k
        · subst e
          rw [HX.out, HM.out]
          exact hle
        · exact hpast.out j hj (by omega)
      · go_wp2_with fail
        go_ret
        have hno : decide (Fits L) = false := decide_eq_false (right_no L k hkl (by rw [HX.out, HM.out]; omega))
        rw [hno]
        exact ⟨rfl, HB.out⟩
    · obtain rfl : k = 15 := by omega
      go_wp2_with fail
      go_ret
      have hyes : decide (Fits L) = true := decide_eq_true ⟨HL.out, fun j hj => hpast.out j hj (by rw [HL.out] at hj; exact hj)⟩
      rw [hyes]
      exact ⟨rfl, HB.out⟩
end Go.Proofs.YtdimlfjepliflaaGreatDoor
/-
  The walk of package head's lay.
-/
namespace Go.Proofs.YtdimlfjepliflaaGreatDoor
open Go.RowKit
set_option maxRecDepth 10000

theorem bvs_zero (n : Nat) : List.replicate n (Value.int .u8 0) = bvs (List.replicate n 0) := by simp [bvs, bv]
/-- Put of a number that fits -/
theorem put_fit (A : Option Addr) (bs : List UInt8) (c n s B : Nat) (W : World) (hr : Rd W B A (bvs bs)) (hs : 1 ≤ s ∧ s ≤ 8) (hn : n < 2 ^ (8 * s)) (hB : B ≤ W.heap.size) (hl : bs.length ≤ 140737488351232) :
    Calls Tryz.prog 86 #[.slice A bs.length c, .int .u64 (n : Int), .int .i64 (s : Int)] W
    fun e w' => ∃ A c, e = .returned (.tuple #[.slice A (bs.length + s) c, .int .i64 0]) ∧ w'.ownsRow W.heap.size 5 1 (.slice A (bs.length + s) c) (bs.length + s) (bvs (bs ++ le n s)) ∧ Below W.heap.size W w' := by
  have h := put_any A bs bs.length c n B s W hr rfl hB hl
  have e : putS bs n s = (bs ++ le n s, 0) := by
    unfold putS
    rw [if_pos ⟨by omega, by omega, Nat.div_eq_of_lt (by simpa using hn)⟩]
    simp
  rw [e] at h
  refine h.mono fun e w' hh => BE.len hh (by simp [le_len])
theorem sum_of (b : List UInt8) (hb : b.length ≤ 1000000) (W : World) : Calls Tryz.prog 143 #[.string ⟨b.toArray⟩] W fun e w' => e = .returned (.int .u32 ((addS 0#32 b).toNat : Int)) ∧ Below W.heap.size W w' := by
  have h := sum_calls ⟨b.toArray⟩ W (by rw [← sb_len, sb_mk]; omega)
  rw [sb_mk] at h
  exact h
theorem put_sum0 (x : BitVec 32) (W : World) : Calls Tryz.prog 86 #[.slice none 0 0, .int .u64 (x.toNat : Int), .int .i64 4] W
    fun e w' => ∃ A c, e = .returned (.tuple #[.slice A 4 c, .int .i64 0]) ∧ Rd w' w'.heap.size A (bvs (le x.toNat 4)) ∧ Below W.heap.size W w' := by
  have h := put_fit none [] 0 x.toNat 4 0 W Rd.nil (by omega) x.isLt (by omega) (by simp)
  refine h.mono fun e w' ⟨A, c, e1, ho, hb⟩ => ⟨A, c, e1, ?_, hb⟩
  obtain ⟨A', c', e2, _, _, hrd⟩ := own_shape ho
  cases e2
  exact hrd
theorem fits_lt {l : List Nat} (h : Fits l) (k : Nat) (hk : k < l.length) : l[k] < 2 ^ (8 * sz k) := Nat.lt_of_le_of_lt (h.2 k hk) (mo_lt k (by rw [← h.1]; exact hk))
set_option maxHeartbeats 1000000 in
theorem layh_any (l : List Nat) (hfit : Fits l) (w : World) (hf : Fd w) : Calls Tryz.prog 144 #[.agg (av l).toArray] w (SE w (headB l)) := by
  obtain ⟨i0, hi, hz0, hz1, hz2⟩ := info_parts u8info
  have HF := hid hf
  have HFit := hid hfit
  have HL := hid hfit.1
  have HA : Hid ((av l).toArray.size = 15) := hid (by simp [av, hfit.1])
  clear hf hfit
  go_enter Tryz.func144, Tryz.ntmps144
  go_wp2_with (refine wpList_load_row rfl 187 (.tmp 1) rfl w.heap.size rfl 187 (av l).toArray (0, 0) _ (heap_alloc_new _ _) Tryz.underlying187 rfl (by rw [HA.out]; kernel_rfl) ?_)
  have hb0 : Below w.heap.size w (w.alloc (.cells (av l).toArray 187)) := (Below.refl _ _).alloc (Nat.le_refl _) _
  generalize hw1 : w.alloc (.cells (av l).toArray 187) = w1 at *
  have HB0 := hid hb0
  clear hb0 hw1
  go_loopw [3, 9] (fun b i wr => ∃ k : Nat, k ≤ 15 ∧ i = .int .i64 k ∧ (∃ A c, b = .slice A (off k) c ∧ off k ≤ c ∧ wr.ownsRow w.heap.size 5 1 (.slice A (off k) c) (off k) (bvs (fl l k))) ∧ Below w.heap.size w wr) (fun _ i _ => 15 - (intOf i).toNat)
  case atStart => exact ⟨0, by omega, rfl, ⟨none, 0, rfl, Nat.le_refl _, World.ownsRow_nil _ _ _ _⟩, HB0.out⟩
  case round =>
    obtain ⟨k, hk, rfl, ⟨A, c, rfl, hc, hown⟩, hbe⟩ := hrel
    have HBe := hid hbe
    have hsz := hbe.size
    have HO := hid hown
    have hoff := off_le k hk
    by_cases hlt : k < 15
    · have hkl : k < l.length := by rw [HL.out]; exact hlt
      have hix := fun W => run_index_arr (P := Tryz.prog) W 187 29 15 (av l).toArray .i64 k _ .u64 Tryz.underlying187 Tryz.underlying29 (by kernel_rfl) hlt (by simpa using av_get l k hkl)
      have hcz := (HF.out.below hbe HF.out.1).size hlt
      have hsz1 := sz_lo k hlt
      have hfl := fl_len l k
      have HP : Hid (Calls Tryz.prog 86 #[.slice A (off k) c, .int .u64 ((l[k] : Nat) : Int), .int .i64 (sz k : Int)] wr
          fun e w' => ∃ A c, e = .returned (.tuple #[.slice A (off (k + 1)) c, .int .i64 0]) ∧ w'.ownsRow wr.heap.size 5 1 (.slice A (off (k + 1)) c) (off (k + 1)) (bvs (fl l (k + 1))) ∧ Below wr.heap.size wr w') := hid (by
        obtain ⟨A', c', hv, hc', hlen, hrd⟩ := own_shape hown
        cases hv
        have h := put_fit A (fl l k) c l[k] (sz k) wr.heap.size wr hrd hsz1 (fits_lt HFit.out k hkl) (Nat.le_refl _) (by rw [hfl]; omega)
        rw [hfl] at h
        have e1 : fl l (k + 1) = fl l k ++ le l[k] (sz k) := by simp [fl, hkl]
        rw [e1]
        exact h)
      generalize l[k] = x at hix HP
      generalize hs : sz k = s at hcz HP hsz1
      clear hown hbe hs
      go_wp2_with (go_at_call 86; refine HP.out.mono ?_; rintro e w2 ⟨A2, c2, rfl, hown2, hb2⟩)
      exact ⟨⟨k + 1, by omega, by go_num, ⟨A2, c2, rfl, (own_shape hown2).elim fun _ ⟨_, e, hc2, _⟩ => by cases e; exact hc2, own_base hown2 hsz⟩, HBe.out.trans (hb2.mono hsz)⟩, by simp [intOf]; omega⟩
    · obtain rfl : k = 15 := by omega
      rw [off_15] at hown hc
      have hR := restS_len l
      have hrest : bvs (fl l 15) ++ List.replicate 40 (.int .u8 0) = bvs (restS l) := by rw [bvs_zero, ← bvs_app, restS]
      have HS := hid (fun W => sum_of (restS l) (by omega) W)
      have HP := hid (fun W => put_sum0 (addS 0#32 (restS l)) W)
      have hfin : headB l = le (addS 0#32 (restS l)).toNat 4 ++ restS l := rfl
      generalize restS l = R at *
      generalize addS 0#32 R = x at *
      have HH := hid hrest
      have HR := hid hR
      have HFN := hid hfin
      have hcat : ¬ (9223372036854775807 < (le x.toNat 4).length + R.length) := by rw [le_len, hR]; omega
      have HL4 := hid (le_len 4 x.toNat)
      clear hrest hR hfin HFit HO hbe
      rw [off_15]
      go_wp2_with (first
        | (with_reducible refine wpl_append_zeros rfl _ _ 93 3 rfl w.heap.size 5 i0 .i64 Tryz.underlying93 Tryz.underlying3 hi hz0 hz1 hz2 (.slice A 84 c) 84 _ rfl hown _ 40 rfl ?_ ?_ ?_ ?_ ?_; intro v2 w2 hown2 hb2 hg2; rw [HH.out] at hown2; obtain ⟨A2, c2, rfl, -, -, hrd2⟩ := own_shape hown2)
        | (with_reducible refine wpl_str rfl _ 93 9 rfl 5 Tryz.underlying93 Tryz.underlying5 Tryz.underlying9 A2 124 c2 rfl w2.heap.size R ?_ (hid hrd2) (hid HR.out.symm))
        | (go_at_call 143; refine (HS.out _).mono ?_; rintro e w3 ⟨rfl, hb3⟩)
        | (go_at_call 86; refine (HP.out _).mono ?_; rintro e w4 ⟨A4, c4, rfl, hrd4, hb4⟩)
        | (with_reducible refine wpl_str rfl _ 93 9 rfl 5 Tryz.underlying93 Tryz.underlying5 Tryz.underlying9 A4 4 c4 rfl w4.heap.size (le x.toNat 4) ?_ (hid hrd4) (hid HL4.out.symm))
        | (with_reducible refine wpl_str rfl _ 93 9 rfl 5 Tryz.underlying93 Tryz.underlying5 Tryz.underlying9 A2 124 c2 rfl w2.heap.size R ?_ (hid ((hrd2.below hb3 (Nat.le_refl _)).below hb4 hb3.size)) (hid HR.out.symm)))
      · go_ret
        refine ⟨by rw [HFN.out, cat_mk]; rfl, ?_⟩
        have s2 := hb2.size
        have s3 := hb3.size
        exact ((HBe.out.trans hb2).trans (hb3.mono (by omega))).trans (hb4.mono (by omega))
      · exact hid rfl
      · exact hid (by omega)
      · exact hid (by omega)
      · exact hid hsz
end Go.Proofs.YtdimlfjepliflaaGreatDoor
/-
  The walk of package head's Pack.
-/
namespace Go.Proofs.YtdimlfjepliflaaGreatDoor
open Go.RowKit
set_option maxRecDepth 10000

theorem full_fits (h : Hd) (body : List UInt8) (hf : Fits h.nums) (hb : body.length ≤ 3968) : Fits (full h body) := by
  refine ⟨full_len h body, fun k hk => ?_⟩
  have hk15 : k < 15 := by rw [← full_len h body]; exact hk
  simp only [full, List.getElem_set]
  split
  · rename_i e5
    subst e5
    show body.length ≤ 4294967295
    omega
  · split
    · rename_i e0
      subst e0
      have : (addS 0#32 body).toNat < 4294967296 := (addS 0#32 body).isLt
      show _ ≤ 4294967295
      omega
    · exact hf.2 k (by rw [nums_len]; exact hk15)
theorem cat_sb (a : List UInt8) (s : ByteArray) : (⟨a.toArray⟩ : ByteArray) ++ s = ⟨(a ++ sb s).toArray⟩ := by
  apply ByteArray.ext
  simp [sb]
theorem sum_str (s : ByteArray) (h : s.size ≤ 1000000) (W : World) : Calls Tryz.prog 143 #[.string s] W fun e w' => e = .returned (.int .u32 ((addS 0#32 (sb s)).toNat : Int)) ∧ Below W.heap.size W w' := sum_calls s W (by omega)
theorem setRow_row (w : World) (z : Array Value) (cs : List Value) : Row ((w.alloc (.cells z 187)).setRow w.heap.size cs.toArray) w.heap.size 187 cs := setRow_heap _ w.heap.size z cs.toArray 187 (0, 0) (heap_alloc_new _ _)
theorem setRow_below (w : World) (z : Array Value) (cs : List Value) : Below w.heap.size w ((w.alloc (.cells z 187)).setRow w.heap.size cs.toArray) :=
  ((Below.refl _ _).alloc (Nat.le_refl _) _).trans (below_grown (grownBy_setRow _ w.heap.size _) (Nat.le_refl _) (by simp))
set_option maxHeartbeats 1000000 in
theorem pack_form (h : Hd) (body : ByteArray) (w : World) (hf : Fd w) (hno : ¬ Fits h.nums) : Calls Tryz.prog 108 #[h.val, .string body] w (SN w ([], 4)) := by
  have HR : Hid (∀ W, Fd W → Calls Tryz.prog 141 #[h.val] W (VE W (.bool false))) := hid fun W hW => by
    have := right_any h W hW
    rwa [decide_eq_false hno] at this
  have HF := hid hf
  clear hno hf
  obtain ⟨kind, frm, oper, view, opn, commit, client, session, request, a, b, parent⟩ := h
  have HR2 : Hid (∀ W : World, Fd W → Calls Tryz.prog 141 #[.agg #[.int .i64 kind, .int .i64 frm, .int .i64 oper, .int .i64 view, .int .i64 opn, .int .i64 commit, .int .i64 client, .int .i64 session, .int .i64 request, .int .i64 a, .int .i64 b, .int .u64 (parent : Int)]] W (VE W (.bool false))) := hid HR.out
  show Calls Tryz.prog 108 #[.agg #[.int .i64 kind, .int .i64 frm, .int .i64 oper, .int .i64 view, .int .i64 opn, .int .i64 commit, .int .i64 client, .int .i64 session, .int .i64 request, .int .i64 a, .int .i64 b, .int .u64 (parent : Int)], .string body] w _
  have hb0 : Below w.heap.size w (w.alloc (.cells #[.int .i64 kind, .int .i64 frm, .int .i64 oper, .int .i64 view, .int .i64 opn, .int .i64 commit, .int .i64 client, .int .i64 session, .int .i64 request, .int .i64 a, .int .i64 b, .int .u64 (parent : Int)] 161)) := (Below.refl _ _).alloc (Nat.le_refl _) _
  have HB := hid hb0
  clear hb0 HR
  go_enter Tryz.func108, Tryz.ntmps108
  go_wp2_with (go_at_call 141; refine (HR2.out _ (HF.out.below HB.out HF.out.1)).mono ?_; rintro e w1 ⟨rfl, hb1⟩)
  go_ret2
  exact ⟨rfl, HB.out.trans (hb1.mono HB.out.size)⟩
set_option maxHeartbeats 1000000 in
theorem pack_long (h : Hd) (body : ByteArray) (w : World) (hf : Fd w) (hyes : Fits h.nums) (hlong : 3968 < (body.size : Int)) : Calls Tryz.prog 108 #[h.val, .string body] w (SN w ([], 5)) := by
  have HR : Hid (∀ W, Fd W → Calls Tryz.prog 141 #[h.val] W (VE W (.bool true))) := hid fun W hW => by
    have := right_any h W hW
    rwa [decide_eq_true hyes] at this
  have HF := hid hf
  clear hyes hf
  obtain ⟨kind, frm, oper, view, opn, commit, client, session, request, a, b, parent⟩ := h
  have HR2 : Hid (∀ W : World, Fd W → Calls Tryz.prog 141 #[.agg #[.int .i64 kind, .int .i64 frm, .int .i64 oper, .int .i64 view, .int .i64 opn, .int .i64 commit, .int .i64 client, .int .i64 session, .int .i64 request, .int .i64 a, .int .i64 b, .int .u64 (parent : Int)]] W (VE W (.bool true))) := hid HR.out
  show Calls Tryz.prog 108 #[.agg #[.int .i64 kind, .int .i64 frm, .int .i64 oper, .int .i64 view, .int .i64 opn, .int .i64 commit, .int .i64 client, .int .i64 session, .int .i64 request, .int .i64 a, .int .i64 b, .int .u64 (parent : Int)], .string body] w _
  have hb0 : Below w.heap.size w (w.alloc (.cells #[.int .i64 kind, .int .i64 frm, .int .i64 oper, .int .i64 view, .int .i64 opn, .int .i64 commit, .int .i64 client, .int .i64 session, .int .i64 request, .int .i64 a, .int .i64 b, .int .u64 (parent : Int)] 161)) := (Below.refl _ _).alloc (Nat.le_refl _) _
  have HB := hid hb0
  clear hb0 HR
  go_enter Tryz.func108, Tryz.ntmps108
  go_wp2_with (go_at_call 141; refine (HR2.out _ (HF.out.below HB.out HF.out.1)).mono ?_; rintro e w1 ⟨rfl, hb1⟩)
  go_ret2
  exact ⟨rfl, HB.out.trans (hb1.mono HB.out.size)⟩
set_option maxHeartbeats 1000000 in
theorem pack_ok (h : Hd) (body : ByteArray) (w : World) (hf : Fd w) (hyes : Fits h.nums) (hroom : body.size ≤ 3968) : Calls Tryz.prog 108 #[h.val, .string body] w (SN w (headB (full h (sb body)) ++ sb body, 0)) := by
  have HR : Hid (∀ W, Fd W → Calls Tryz.prog 141 #[h.val] W (VE W (.bool true))) := hid fun W hW => by
    have := right_any h W hW
    rwa [decide_eq_true hyes] at this
  have HF := hid hf
  have hsl := sb_len body
  have hff := full_fits h (sb body) hyes (by omega)
  have HLY := hid (fun W hW => layh_any (full h (sb body)) hff W hW)
  have HN := hid (fun W => numbers_any h W)
  have HS := hid (fun W => sum_str body (by omega) W)
  have hnl := nums_len h
  have hBl := headB_len (full h (sb body))
  have hroomI : ¬ (3968 < (body.size : Int)) := by omega
  clear hyes hf hff
  have hfull : full h (sb body) = (h.nums.set 0 (addS 0#32 (sb body)).toNat).set 5 body.size := by rw [full, hsl]
  rw [hfull] at HLY ⊢
  have hset0 : ∀ x, (av h.nums).set 0 (.int .u64 (x : Nat)) = av (h.nums.set 0 x) := fun x => av_set _ _ _
  generalize addS 0#32 (sb body) = x at *
  have hx : x.toNat < 4294967296 := x.isLt
  have hset5 : ∀ l : List Nat, (av l).set 5 (.int .u64 ((body.size : Nat) : Int)) = av (l.set 5 body.size) := fun l => av_set _ _ _
  have HA : Hid ((av h.nums).toArray.size = 15) := hid (by simp [av, hnl])
  have HA2 : Hid ((av ((h.nums.set 0 x.toNat).set 5 body.size)).toArray.size = 15) := hid (by simp [av, hnl])
  have hone : Hid (∀ u ∈ av h.nums, u.oneCell' = true) := hid (av_one _)
  have HROW : Hid (∀ (W : World) (g : Nat), Row W g 187 (av h.nums) → ∃ y z : Nat, W.cell? ⟨g, 0, none⟩ = some (.int .u64 (y : Int)) ∧ W.frozen? ⟨g, 0, none⟩ = false ∧ (W.setCell ⟨g, 0, none⟩ (.int .u64 (x.toNat : Int))).cell? ⟨g, 5, none⟩ = some (.int .u64 (z : Int)) ∧ (W.setCell ⟨g, 0, none⟩ (.int .u64 (x.toNat : Int))).frozen? ⟨g, 5, none⟩ = false ∧ Row ((W.setCell ⟨g, 0, none⟩ (.int .u64 (x.toNat : Int)))) g 187 (av (h.nums.set 0 x.toNat)) ∧ Row ((W.setCell ⟨g, 0, none⟩ (.int .u64 (x.toNat : Int))).setCell ⟨g, 5, none⟩ (.int .u64 ((body.size : Nat) : Int))) g 187 (av ((h.nums.set 0 x.toNat).set 5 body.size))) := hid fun W g hr => by
    have h1 := hr.set_ 0 (.int .u64 (x.toNat : Int))
    rw [av_set] at h1
    have h2 := h1.set_ 5 (.int .u64 ((body.size : Nat) : Int))
    rw [av_set] at h2
    exact ⟨_, _, (hr.cell 0).trans (av_get _ 0 (by rw [hnl]; omega)), hr.frozen _, (h1.cell 5).trans (av_get _ 5 (by simp [hnl])), h1.frozen _, h1, h2⟩
  have hcat : ¬ (9223372036854775807 < (headB ((h.nums.set 0 x.toNat).set 5 body.size)).length + body.size) := by rw [headB_len]; omega
  obtain ⟨kind, frm, oper, view, opn, commit, client, session, request, a, b, parent⟩ := h
  have HR2 : Hid (∀ W : World, Fd W → Calls Tryz.prog 141 #[.agg #[.int .i64 kind, .int .i64 frm, .int .i64 oper, .int .i64 view, .int .i64 opn, .int .i64 commit, .int .i64 client, .int .i64 session, .int .i64 request, .int .i64 a, .int .i64 b, .int .u64 (parent : Int)]] W (VE W (.bool true))) := hid HR.out
  have HN2 : Hid (∀ W : World, Calls Tryz.prog 142 #[.agg #[.int .i64 kind, .int .i64 frm, .int .i64 oper, .int .i64 view, .int .i64 opn, .int .i64 commit, .int .i64 client, .int .i64 session, .int .i64 request, .int .i64 a, .int .i64 b, .int .u64 (parent : Int)]] W (VE W (.agg (av (Hd.nums ⟨kind, frm, oper, view, opn, commit, client, session, request, a, b, parent⟩)).toArray))) := hid HN.out
  show Calls Tryz.prog 108 #[.agg #[.int .i64 kind, .int .i64 frm, .int .i64 oper, .int .i64 view, .int .i64 opn, .int .i64 commit, .int .i64 client, .int .i64 session, .int .i64 request, .int .i64 a, .int .i64 b, .int .u64 (parent : Int)], .string body] w _
  generalize Hd.nums ⟨kind, frm, oper, view, opn, commit, client, session, request, a, b, parent⟩ = L at *
  have hb0 : Below w.heap.size w (w.alloc (.cells #[.int .i64 kind, .int .i64 frm, .int .i64 oper, .int .i64 view, .int .i64 opn, .int .i64 commit, .int .i64 client, .int .i64 session, .int .i64 request, .int .i64 a, .int .i64 b, .int .u64 (parent : Int)] 161)) := (Below.refl _ _).alloc (Nat.le_refl _) _
  have hl0 := Row.new w 161 #[.int .i64 kind, .int .i64 frm, .int .i64 oper, .int .i64 view, .int .i64 opn, .int .i64 commit, .int .i64 client, .int .i64 session, .int .i64 request, .int .i64 a, .int .i64 b, .int .u64 (parent : Int)]
  have hs0 : w.heap.size < (w.alloc (.cells #[.int .i64 kind, .int .i64 frm, .int .i64 oper, .int .i64 view, .int .i64 opn, .int .i64 commit, .int .i64 client, .int .i64 session, .int .i64 request, .int .i64 a, .int .i64 b, .int .u64 (parent : Int)] 161)).heap.size := by simp
  have HB := hid hb0
  have HS0 := hid hs0
  have HL0 := hid hl0
  have hcells : Hid (∀ W : World, Row W w.heap.size 161 (Hd.cells ⟨kind, frm, oper, view, opn, commit, client, session, request, a, b, parent⟩).toList → ∀ i u, (Hd.cells ⟨kind, frm, oper, view, opn, commit, client, session, request, a, b, parent⟩)[i]? = some u → W.cell? ⟨w.heap.size, i, none⟩ = some u) := hid fun W hr i u hu => by
    rw [hr.cell, Array.getElem?_toList]
    exact hu
  clear hb0 hl0 hs0 HR HN hset0 hset5 hnl hBl hfull hsl
  go_enter Tryz.func108, Tryz.ntmps108
  go_wp2_with (first
    | (go_at_call 141; refine (HR2.out _ (HF.out.below HB.out HF.out.1)).mono ?_; rintro e w1 ⟨rfl, hb1⟩;
        have hc := hcells.out w1 (HL0.out.below hb1 HS0.out); have q0 := hc 0 (.int .i64 kind) rfl; have q1 := hc 1 (.int .i64 frm) rfl; have q2 := hc 2 (.int .i64 oper) rfl; have q3 := hc 3 (.int .i64 view) rfl; have q4 := hc 4 (.int .i64 opn) rfl; have q5 := hc 5 (.int .i64 commit) rfl; have q6 := hc 6 (.int .i64 client) rfl; have q7 := hc 7 (.int .i64 session) rfl; have q8 := hc 8 (.int .i64 request) rfl; have q9 := hc 9 (.int .i64 a) rfl; have q10 := hc 10 (.int .i64 b) rfl; have q11 := hc 11 (.int .u64 (parent : Int)) rfl; clear hc)
    | (go_at_call 142; refine (HN2.out _).mono ?_; rintro e w2 ⟨rfl, hb2⟩)
    | (refine wpList_store_row rfl 187 (.tmp 6) (.tmp 14) rfl w2.heap.size (av L).toArray rfl rfl 187 #[.int .u64 0, .int .u64 0, .int .u64 0, .int .u64 0, .int .u64 0, .int .u64 0, .int .u64 0, .int .u64 0, .int .u64 0, .int .u64 0, .int .u64 0, .int .u64 0, .int .u64 0, .int .u64 0, .int .u64 0] (heap_alloc_new _ _) (by rw [HA.out]; kernel_rfl) (by rw [HA.out]; rfl) (by rw [Array.all_eq_true']; intro u hu; exact hone.out u (by simpa using hu)) ?_;
        have hr3 := setRow_row w2 #[.int .u64 0, .int .u64 0, .int .u64 0, .int .u64 0, .int .u64 0, .int .u64 0, .int .u64 0, .int .u64 0, .int .u64 0, .int .u64 0, .int .u64 0, .int .u64 0, .int .u64 0, .int .u64 0, .int .u64 0] (av L); generalize hw3 : (w2.alloc (.cells #[.int .u64 0, .int .u64 0, .int .u64 0, .int .u64 0, .int .u64 0, .int .u64 0, .int .u64 0, .int .u64 0, .int .u64 0, .int .u64 0, .int .u64 0, .int .u64 0, .int .u64 0, .int .u64 0, .int .u64 0] 187)).setRow w2.heap.size (av L).toArray = w3 at hr3 ⊢; have hb3 : Below w2.heap.size w2 w3 := (by rw [← hw3]; exact setRow_below w2 #[.int .u64 0, .int .u64 0, .int .u64 0, .int .u64 0, .int .u64 0, .int .u64 0, .int .u64 0, .int .u64 0, .int .u64 0, .int .u64 0, .int .u64 0, .int .u64 0, .int .u64 0, .int .u64 0, .int .u64 0] (av L));
        have hs3 := hr3.lt; have HR3 := hid hr3; clear hr3 hw3)
    | (go_at_call 143; refine (HS.out _).mono ?_; rintro e w4 ⟨rfl, hb4⟩; obtain ⟨y, z, q12, q13, q14, q15, q16, q17⟩ := HROW.out w4 w2.heap.size (HR3.out.below hb4 hs3); have HR4 := hid q16; have HR5 := hid q17; clear q16 q17;
        have hbA := ((((HB.out.trans (hb1.mono HB.out.size)).trans (hb2.mono (Nat.le_trans HB.out.size hb1.size))).trans (hb3.mono (Nat.le_trans HB.out.size (Nat.le_trans hb1.size hb2.size)))).trans (hb4.mono (Nat.le_trans HB.out.size (Nat.le_trans hb1.size (Nat.le_trans hb2.size hb3.size)))));
        have HBA := hid ((hbA.setCell (p := ⟨w2.heap.size, 0, none⟩) (Nat.le_trans HB.out.size (Nat.le_trans hb1.size hb2.size)) (.int .u64 (x.toNat : Int))).setCell (p := ⟨w2.heap.size, 5, none⟩) (Nat.le_trans HB.out.size (Nat.le_trans hb1.size hb2.size)) (.int .u64 ((body.size : Nat) : Int))); clear hbA)
    | (refine wpList_load_row rfl 187 (.tmp 6) rfl w2.heap.size rfl 187 (av ((L.set 0 x.toNat).set 5 body.size)).toArray (0, 0) _ HR5.out Tryz.underlying187 rfl (by rw [HA2.out]; kernel_rfl) ?_)
    | (go_at_call 144; refine (HLY.out _ (HF.out.below HBA.out HF.out.1)).mono ?_; rintro e w6 ⟨rfl, hb6⟩))
  go_ret2
  exact ⟨by rw [cat_sb]; rfl, HBA.out.trans (hb6.mono HBA.out.size)⟩
theorem pack_any9 (h : Hd) (body : ByteArray) (w : World) (hf : Fd w) : Calls Tryz.prog 108 #[h.val, .string body] w (SN w (packS h (sb body))) := by
  unfold packS
  have hl := sb_len body
  by_cases hfit : Fits h.nums
  · rw [if_neg (by simpa using hfit)]
    by_cases hlong : 3968 < (sb body).length
    · rw [if_pos hlong]
      exact pack_long h body w hf hfit (by omega)
    · rw [if_neg hlong]
      exact pack_ok h body w hf hfit (by omega)
  · rw [if_pos hfit]
    exact pack_form h body w hf hfit
end Go.Proofs.YtdimlfjepliflaaGreatDoor
/-
  The walk of the document's Right.
-/
namespace Go.Proofs.YtdimlfjepliflaaGreatDoor
open Go.RowKit
set_option maxRecDepth 10000

def sm (n : Int) : Bool := decide (0 ≤ n ∧ n ≤ 255)
def ft (n : Int) : Bool := decide (0 ≤ n ∧ n ≤ 72057594037927935)
def rightS (h : Hd) : Bool := sm h.kind && sm h.frm && sm h.oper && ft h.view && ft h.opn && ft h.commit && ft h.client && ft h.session && ft h.request && ft h.a && ft h.b
end Go.Proofs.YtdimlfjepliflaaGreatDoor
/-
  Plain words on headers: which may be, what is packed and read again, what was turned, cut or grown is found.
-/
namespace Go.Proofs.YtdimlfjepliflaaGreatDoor
open Go.RowKit

/-! ### which headers may be -/
theorem fits_iff (h : Hd) (hp : h.parent < 18446744073709551616) : Fits h.nums ↔ (un h.kind ≤ 255 ∧ un h.frm ≤ 255 ∧ un h.oper ≤ 255) ∧ (un h.view ≤ 72057594037927935 ∧ un h.opn ≤ 72057594037927935 ∧ un h.commit ≤ 72057594037927935 ∧ un h.client ≤ 72057594037927935) ∧
    (un h.session ≤ 72057594037927935 ∧ un h.request ≤ 72057594037927935 ∧ un h.a ≤ 72057594037927935 ∧ un h.b ≤ 72057594037927935) := by
  constructor
  · rintro ⟨_, hf⟩
    have hl := nums_len h
    exact ⟨⟨hf 1 (by omega), hf 2 (by omega), hf 3 (by omega)⟩, ⟨hf 7 (by omega), hf 8 (by omega), hf 9 (by omega), hf 10 (by omega)⟩, hf 11 (by omega), hf 12 (by omega), hf 13 (by omega), hf 14 (by omega)⟩
  · rintro ⟨⟨h1, h2, h3⟩, ⟨h7, h8, h9, h10⟩, h11, h12, h13, h14⟩
    refine ⟨rfl, fun k hk => ?_⟩
    match k, hk with
    | 0, _ => exact Nat.zero_le _
    | 1, _ => exact h1
    | 2, _ => exact h2
    | 3, _ => exact h3
    | 4, _ => exact Nat.zero_le _
    | 5, _ => exact Nat.zero_le _
    | 6, _ => exact Nat.le_of_lt_succ hp
    | 7, _ => exact h7
    | 8, _ => exact h8
    | 9, _ => exact h9
    | 10, _ => exact h10
    | 11, _ => exact h11
    | 12, _ => exact h12
    | 13, _ => exact h13
    | 14, _ => exact h14
    | k + 15, hk => exact absurd hk (by rw [nums_len]; omega)
theorem un_small {x : Int} (hx : In64 x) : un x ≤ 255 ↔ 0 ≤ x ∧ x ≤ 255 := by
  have h := un_eq x
  have h0 := un_lt x
  unfold In64 at hx
  omega
theorem un_fits {x : Int} (hx : In64 x) : un x ≤ 72057594037927935 ↔ 0 ≤ x ∧ x ≤ 72057594037927935 := by
  have h := un_eq x
  have h0 := un_lt x
  unfold In64 at hx
  omega
theorem right_fits (h : Hd) (hh : h.fits) : rightS h = decide (Fits h.nums) := by
  obtain ⟨⟨a1, a2, a3, a4, a5, a6⟩, ⟨b1, b2, b3, b4, b5⟩, hp⟩ := hh
  unfold rightS sm ft
  rw [Bool.eq_iff_iff, decide_eq_true_iff, fits_iff h hp, un_small a1, un_small a2, un_small a3, un_fits a4, un_fits a5, un_fits a6, un_fits b1, un_fits b2, un_fits b3, un_fits b4, un_fits b5]
  simp only [Bool.and_eq_true, decide_eq_true_eq]
  constructor
  · rintro ⟨⟨⟨⟨⟨⟨⟨⟨⟨⟨c1, c2⟩, c3⟩, c4⟩, c5⟩, c6⟩, c7⟩, c8⟩, c9⟩, c10⟩, c11⟩
    exact ⟨⟨c1, c2, c3⟩, ⟨c4, c5, c6, c7⟩, c8, c9, c10, c11⟩
  · rintro ⟨⟨c1, c2, c3⟩, ⟨c4, c5, c6, c7⟩, c8, c9, c10, c11⟩
    exact ⟨⟨⟨⟨⟨⟨⟨⟨⟨⟨c1, c2⟩, c3⟩, c4⟩, c5⟩, c6⟩, c7⟩, c8⟩, c9⟩, c10⟩, c11⟩
/-! ### the bytes of one place -/
theorem fl_part (l : List Nat) : ∀ m k, k < m → ∃ t, fl l m = fl l k ++ (le (l.getD k 0) (sz k) ++ t)
  | 0, _, h => by omega
  | m + 1, k, h => by
    by_cases e : k = m
    · subst e
      exact ⟨[], by simp [fl]⟩
    · obtain ⟨t, ht⟩ := fl_part l m k (by omega)
      exact ⟨t ++ le (l.getD m 0) (sz m), by rw [fl, ht]; simp⟩
theorem place (l : List Nat) (body : List UInt8) (k : Nat) (hk : k < 15) : ((headB l ++ body).drop (4 + off k)).take (sz k) = le (l.getD k 0) (sz k) := by
  obtain ⟨t, ht⟩ := fl_part l 15 k hk
  have h4 := sumS_len (restS l)
  have hf := fl_len l k
  have e : headB l ++ body = (sumS (restS l) ++ fl l k) ++ (le (l.getD k 0) (sz k) ++ (t ++ List.replicate 40 0 ++ body)) := by
    have e1 : restS l = fl l k ++ (le (l.getD k 0) (sz k) ++ (t ++ List.replicate 40 0)) := by
      rw [restS, ht]
      simp only [List.append_assoc]
    unfold headB
    rw [show sumS (restS l) ++ restS l = sumS (restS l) ++ (fl l k ++ (le (l.getD k 0) (sz k) ++ (t ++ List.replicate 40 0))) from congrArg (fun z => sumS (restS l) ++ z) e1]
    simp only [List.append_assoc]
  have hl : (sumS (restS l) ++ fl l k).length = 4 + off k := by rw [List.length_append, h4, hf]
  rw [e, ← hl, List.drop_left, List.take_append_of_le_length (by rw [le_len]; exact Nat.le_refl _), List.take_of_length_le (by rw [le_len]; exact Nat.le_refl _)]
/-! ### packed and read again -/
/-- what is packed is so -/
theorem packS_ok {h : Hd} {body s : List UInt8} (e : packS h body = (s, 0)) : Fits h.nums ∧ body.length ≤ 3968 ∧ s = headB (full h body) ++ body := by
  unfold packS at e
  split at e
  · simp at e
  · rename_i hf
    split at e
    · simp at e
    · rename_i hl
      exact ⟨by simpa using hf, by omega, (Prod.mk.inj e).1.symm⟩
/-! ### turned, cut, grown -/
end Go.Proofs.YtdimlfjepliflaaGreatDoor
/-
  The walks of Chain, and of the document's Chain.
-/
namespace Go.Proofs.YtdimlfjepliflaaGreatDoor
open Go.RowKit
set_option maxRecDepth 10000

theorem cs_calls (h : BitVec 64) (c : UInt8) (w : World) :
    Calls Tryz.prog 110 #[.int .u64 (h.toNat : Int), .int .u8 (c.toNat : Int)] w fun e w' => e = .returned (.int .u64 ((linkStep h c).toNat : Int)) ∧ w = w' := by
  have h1 : h.toNat < 18446744073709551616 := h.isLt
  have h2 : c.toNat < 256 := UInt8.toNat_lt c
  have HC := hid (link_code h c)
  go_enter Tryz.func110, Tryz.ntmps110
  go_wp2
  go_ret
  exact ⟨ret_int HC.out, rfl⟩
theorem orig_code (h : BitVec 64) : bits .xor .u64 (h.toNat : Int) 14695981039346656037 = ((h ^^^ orig).toNat : Int) := by
  have e : (14695981039346656037 : Int) = (orig.toNat : Int) := rfl
  rw [e, xor64]
theorem long8_len (n : Nat) : (long8 n).length = 8 := by simp [long8]
theorem long8_get (n j : Nat) (h : j < 8) : (long8 n)[j]? = some (UInt8.ofNat (n / 2 ^ (8 * j))) := by
  simp [long8, List.getElem?_range h]
theorem links_snoc (h : BitVec 64) (l : List UInt8) (k : Nat) (hk : k < l.length) : (l.take (k + 1)).foldl linkStep h = linkStep ((l.take k).foldl linkStep h) l[k] := by
  rw [List.take_succ_eq_append_getElem hk, List.foldl_append]
  rfl
theorem byte_code (n j : Nat) : ((n : Int) / 2 ^ (8 * j) % 256) = (((UInt8.ofNat (n / 2 ^ (8 * j))).toNat : Nat) : Int) := by
  simp
set_option maxHeartbeats 800000 in
theorem chain_calls (h : BitVec 64) (s : ByteArray) (w : World) (hs : s.size ≤ 1125899906842624) :
    Calls Tryz.prog 70 #[.int .u64 (h.toNat : Int), .string s] w fun e w' => e = .returned (.int .u64 ((chainOf h (sb s)).toNat : Int)) ∧ Below w.heap.size w w' := by
  have hx1 : h.toNat < 18446744073709551616 := h.isLt
  have HS := hid (sb_len s)
  have ho := orig_code h
  go_enter Tryz.func70, Tryz.ntmps70
  go_wp2_with (with_reducible refine wpl_bytes rfl _ _ _ rfl 5 Tryz.underlying9 Tryz.underlying93 Tryz.underlying5 s rfl ?_; intro g c k w2 HG HC HR HB)
  clear ho
  go_loop [0, 14] (fun r i => ∃ k : Nat, k ≤ s.size ∧ i = .int .i64 k ∧ r = .int .u64 ((((sb s).take k).foldl linkStep (h ^^^ orig)).toNat : Int)) (fun _ i => s.size - (intOf i).toNat)
  case atStart => exact ⟨0, by omega, rfl, rfl⟩
  case round =>
    obtain ⟨k, hk, rfl, rfl⟩ := hrel
    by_cases hlt : k < s.size
    · have hkl : k < (sb s).length := by rw [HS.out]; exact hlt
      have hc := HR.cell k
      rw [List.getElem?_append_left (by rw [bvs_len]; exact hkl)] at hc
      simp only [bvs, List.getElem?_map, List.getElem?_eq_getElem hkl, Option.map_some, bv] at hc
      have hstep := links_snoc (h ^^^ orig) (sb s) k hkl
      generalize hb : (sb s)[k] = b at hc hstep
      generalize hx : ((sb s).take k).foldl linkStep (h ^^^ orig) = r at hstep ⊢
      have h1 : r.toNat < 18446744073709551616 := r.isLt
      have h2 : b.toNat < 256 := UInt8.toNat_lt b
      have HST := hid hstep
      clear hb hx hstep
      go_wp2_with (go_at_call 110; refine (cs_calls _ _ _).mono ?_; rintro e w' ⟨rfl, rfl⟩)
      go_round
      case rel => exact ⟨k + 1, by omega, by go_num, by rw [HST.out]⟩
      case measure => simp [intOf]; omega
    · obtain rfl : k = s.size := by omega
      have hxt : (((sb s).take s.size).foldl linkStep (h ^^^ orig)) = (sb s).foldl linkStep (h ^^^ orig) := by rw [List.take_of_length_le (by rw [HS.out]; exact Nat.le_refl _)]
      rw [hxt]
      clear hxt
      generalize hq : (sb s).foldl linkStep (h ^^^ orig) = q
      have hq1 : q.toNat < 18446744073709551616 := q.isLt
      have HQ : Hid (chainOf h (sb s) = (long8 s.size).foldl linkStep q) := hid (by rw [chainOf, List.foldl_append, hq, HS.out])
      clear hq
      go_wp2_with fail
      go_loop [0, 25] (fun r i => ∃ k : Nat, k ≤ 8 ∧ i = .int .i64 k ∧ r = .int .u64 ((((long8 s.size).take k).foldl linkStep q).toNat : Int)) (fun _ i => 8 - (intOf i).toNat)
      case atStart => exact ⟨0, by omega, rfl, rfl⟩
      case round =>
        obtain ⟨j, hj, rfl, rfl⟩ := hrel
        by_cases hjl : j < 8
        · have hl8 : j < (long8 s.size).length := by rw [long8_len]; exact hjl
          have hstep := links_snoc q (long8 s.size) j hl8
          have hgt := long8_get s.size j hjl
          rw [List.getElem?_eq_getElem hl8] at hgt
          rw [Option.some.inj hgt] at hstep
          have hbc := byte_code s.size j
          generalize hx : ((long8 s.size).take j).foldl linkStep q = r at hstep ⊢
          generalize UInt8.ofNat (s.size / 2 ^ (8 * j)) = b at hbc hstep
          have h1 : r.toNat < 18446744073709551616 := r.isLt
          have HST := hid hstep
          have HBC := hid hbc
          clear hx hstep hgt hbc
          go_wp2_with (go_at_call 110; rw [HBC.out]; refine (cs_calls _ _ _).mono ?_; rintro e w' ⟨rfl, rfl⟩)
          go_round
          case rel => exact ⟨j + 1, by omega, by go_num, by rw [HST.out]⟩
          case measure => simp [intOf]; omega
        · obtain rfl : j = 8 := by omega
          have hxt : (((long8 s.size).take 8).foldl linkStep q) = (long8 s.size).foldl linkStep q := by rw [List.take_of_length_le (by rw [long8_len]; exact Nat.le_refl _)]
          rw [hxt, ← HQ.out]
          clear hxt
          generalize hz : chainOf h (sb s) = z
          have HZ := hid hz
          clear hz
          go_wp2_with fail
          go_ret
          exact ⟨by rw [HZ.out]; rfl, HB⟩
end Go.Proofs.YtdimlfjepliflaaGreatDoor
