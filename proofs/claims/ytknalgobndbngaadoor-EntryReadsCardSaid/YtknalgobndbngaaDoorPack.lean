/-
  The walk of package head's Pack.
-/
import Derived.Test.YtknalgobndbngaaDoorRight
import Derived.Test.YtknalgobndbngaaDoorLayh
namespace Go.Proofs.YtknalgobndbngaaDoor
open Go.RowKit
set_option maxRecDepth 10000

/-- a text and an error's number -/
def SN (w : World) (r : List UInt8 × Int) (e : Ending) (w' : World) : Prop := e = .returned (.tuple #[.string ⟨r.1.toArray⟩, .int .i64 r.2]) ∧ Below w.heap.size w w'

theorem full_fits (h : Hd) (body : List UInt8) (hf : Fits h.nums) (hb : body.length ≤ 3968) : Fits (full h body) := by
  refine ⟨full_len h body, fun k hk => ?_⟩
  have hk15 : k < 15 := by rw [← full_len h body]; exact hk
  simp only [full, List.getElem_set]
  split
  · rename_i e5
    subst e5
    show body.length ≤ 4294967295
    omega
  · split
    · rename_i e0
      subst e0
      have : (addS 0#32 body).toNat < 4294967296 := (addS 0#32 body).isLt
      show _ ≤ 4294967295
      omega
    · exact hf.2 k (by rw [nums_len]; exact hk15)

theorem cat_sb (a : List UInt8) (s : ByteArray) : (⟨a.toArray⟩ : ByteArray) ++ s = ⟨(a ++ sb s).toArray⟩ := by
  apply ByteArray.ext
  simp [sb]

theorem sum_str (s : ByteArray) (h : s.size ≤ 1000000) (W : World) : Calls Tryd.prog 33 #[.string s] W fun e w' => e = .returned (.int .u32 ((addS 0#32 (sb s)).toNat : Int)) ∧ Below W.heap.size W w' := sum_calls s W (by omega)

theorem setRow_row (w : World) (z : Array Value) (cs : List Value) : Row ((w.alloc (.cells z 53)).setRow w.heap.size cs.toArray) w.heap.size 53 cs := setRow_heap _ w.heap.size z cs.toArray 53 (0, 0) (heap_alloc_new _ _)
theorem setRow_below (w : World) (z : Array Value) (cs : List Value) : Below w.heap.size w ((w.alloc (.cells z 53)).setRow w.heap.size cs.toArray) :=
  ((Below.refl _ _).alloc (Nat.le_refl _) _).trans (below_grown (grownBy_setRow _ w.heap.size _) (Nat.le_refl _) (by simp))

set_option maxHeartbeats 1000000 in
theorem pack_form (h : Hd) (body : ByteArray) (w : World) (hf : Fd w) (hno : ¬ Fits h.nums) : Calls Tryd.prog 20 #[h.val, .string body] w (SN w ([], 4)) := by
  have HR : Hid (∀ W, Fd W → Calls Tryd.prog 31 #[h.val] W (VE W (.bool false))) := hid fun W hW => by
    have := right_any h W hW
    rwa [decide_eq_false hno] at this
  have HF := hid hf
  clear hno hf
  obtain ⟨kind, frm, oper, view, opn, commit, client, session, request, a, b, parent⟩ := h
  have HR2 : Hid (∀ W : World, Fd W → Calls Tryd.prog 31 #[.agg #[.int .i64 kind, .int .i64 frm, .int .i64 oper, .int .i64 view, .int .i64 opn, .int .i64 commit, .int .i64 client, .int .i64 session, .int .i64 request, .int .i64 a, .int .i64 b, .int .u64 (parent : Int)]] W (VE W (.bool false))) := hid HR.out
  show Calls Tryd.prog 20 #[.agg #[.int .i64 kind, .int .i64 frm, .int .i64 oper, .int .i64 view, .int .i64 opn, .int .i64 commit, .int .i64 client, .int .i64 session, .int .i64 request, .int .i64 a, .int .i64 b, .int .u64 (parent : Int)], .string body] w _
  have hb0 : Below w.heap.size w (w.alloc (.cells #[.int .i64 kind, .int .i64 frm, .int .i64 oper, .int .i64 view, .int .i64 opn, .int .i64 commit, .int .i64 client, .int .i64 session, .int .i64 request, .int .i64 a, .int .i64 b, .int .u64 (parent : Int)] 43)) := (Below.refl _ _).alloc (Nat.le_refl _) _
  have HB := hid hb0
  clear hb0 HR
  go_enter Tryd.func20, Tryd.ntmps20
  go_wp2_with (go_at_call 31; refine (HR2.out _ (HF.out.below HB.out HF.out.1)).mono ?_; rintro e w1 ⟨rfl, hb1⟩)
  go_ret2
  exact ⟨rfl, HB.out.trans (hb1.mono HB.out.size)⟩

set_option maxHeartbeats 1000000 in
theorem pack_long (h : Hd) (body : ByteArray) (w : World) (hf : Fd w) (hyes : Fits h.nums) (hlong : 3968 < (body.size : Int)) : Calls Tryd.prog 20 #[h.val, .string body] w (SN w ([], 5)) := by
  have HR : Hid (∀ W, Fd W → Calls Tryd.prog 31 #[h.val] W (VE W (.bool true))) := hid fun W hW => by
    have := right_any h W hW
    rwa [decide_eq_true hyes] at this
  have HF := hid hf
  clear hyes hf
  obtain ⟨kind, frm, oper, view, opn, commit, client, session, request, a, b, parent⟩ := h
  have HR2 : Hid (∀ W : World, Fd W → Calls Tryd.prog 31 #[.agg #[.int .i64 kind, .int .i64 frm, .int .i64 oper, .int .i64 view, .int .i64 opn, .int .i64 commit, .int .i64 client, .int .i64 session, .int .i64 request, .int .i64 a, .int .i64 b, .int .u64 (parent : Int)]] W (VE W (.bool true))) := hid HR.out
  show Calls Tryd.prog 20 #[.agg #[.int .i64 kind, .int .i64 frm, .int .i64 oper, .int .i64 view, .int .i64 opn, .int .i64 commit, .int .i64 client, .int .i64 session, .int .i64 request, .int .i64 a, .int .i64 b, .int .u64 (parent : Int)], .string body] w _
  have hb0 : Below w.heap.size w (w.alloc (.cells #[.int .i64 kind, .int .i64 frm, .int .i64 oper, .int .i64 view, .int .i64 opn, .int .i64 commit, .int .i64 client, .int .i64 session, .int .i64 request, .int .i64 a, .int .i64 b, .int .u64 (parent : Int)] 43)) := (Below.refl _ _).alloc (Nat.le_refl _) _
  have HB := hid hb0
  clear hb0 HR
  go_enter Tryd.func20, Tryd.ntmps20
  go_wp2_with (go_at_call 31; refine (HR2.out _ (HF.out.below HB.out HF.out.1)).mono ?_; rintro e w1 ⟨rfl, hb1⟩)
  go_ret2
  exact ⟨rfl, HB.out.trans (hb1.mono HB.out.size)⟩

set_option maxHeartbeats 1000000 in
theorem pack_ok (h : Hd) (body : ByteArray) (w : World) (hf : Fd w) (hyes : Fits h.nums) (hroom : body.size ≤ 3968) : Calls Tryd.prog 20 #[h.val, .string body] w (SN w (headB (full h (sb body)) ++ sb body, 0)) := by
  have HR : Hid (∀ W, Fd W → Calls Tryd.prog 31 #[h.val] W (VE W (.bool true))) := hid fun W hW => by
    have := right_any h W hW
    rwa [decide_eq_true hyes] at this
  have HF := hid hf
  have hsl := sb_len body
  have hff := full_fits h (sb body) hyes (by omega)
  have HLY := hid (fun W hW => layh_any (full h (sb body)) hff W hW)
  have HN := hid (fun W => numbers_any h W)
  have HS := hid (fun W => sum_str body (by omega) W)
  have hnl := nums_len h
  have hBl := headB_len (full h (sb body))
  have hroomI : ¬ (3968 < (body.size : Int)) := by omega
  clear hyes hf hff
  have hfull : full h (sb body) = (h.nums.set 0 (addS 0#32 (sb body)).toNat).set 5 body.size := by rw [full, hsl]
  rw [hfull] at HLY ⊢
  have hset0 : ∀ x, (av h.nums).set 0 (.int .u64 (x : Nat)) = av (h.nums.set 0 x) := fun x => av_set _ _ _
  generalize addS 0#32 (sb body) = x at *
  have hx : x.toNat < 4294967296 := x.isLt
  have hset5 : ∀ l : List Nat, (av l).set 5 (.int .u64 ((body.size : Nat) : Int)) = av (l.set 5 body.size) := fun l => av_set _ _ _
  have HA : Hid ((av h.nums).toArray.size = 15) := hid (by simp [av, hnl])
  have HA2 : Hid ((av ((h.nums.set 0 x.toNat).set 5 body.size)).toArray.size = 15) := hid (by simp [av, hnl])
  have hone : Hid (∀ u ∈ av h.nums, u.oneCell' = true) := hid (av_one _)
  have HROW : Hid (∀ (W : World) (g : Nat), Row W g 53 (av h.nums) → ∃ y z : Nat, W.cell? ⟨g, 0, none⟩ = some (.int .u64 (y : Int)) ∧ W.frozen? ⟨g, 0, none⟩ = false ∧ (W.setCell ⟨g, 0, none⟩ (.int .u64 (x.toNat : Int))).cell? ⟨g, 5, none⟩ = some (.int .u64 (z : Int)) ∧ (W.setCell ⟨g, 0, none⟩ (.int .u64 (x.toNat : Int))).frozen? ⟨g, 5, none⟩ = false ∧ Row ((W.setCell ⟨g, 0, none⟩ (.int .u64 (x.toNat : Int)))) g 53 (av (h.nums.set 0 x.toNat)) ∧ Row ((W.setCell ⟨g, 0, none⟩ (.int .u64 (x.toNat : Int))).setCell ⟨g, 5, none⟩ (.int .u64 ((body.size : Nat) : Int))) g 53 (av ((h.nums.set 0 x.toNat).set 5 body.size))) := hid fun W g hr => by
    have h1 := hr.set_ 0 (.int .u64 (x.toNat : Int))
    rw [av_set] at h1
    have h2 := h1.set_ 5 (.int .u64 ((body.size : Nat) : Int))
    rw [av_set] at h2
    exact ⟨_, _, (hr.cell 0).trans (av_get _ 0 (by rw [hnl]; omega)), hr.frozen _, (h1.cell 5).trans (av_get _ 5 (by simp [hnl])), h1.frozen _, h1, h2⟩
  have hcat : ¬ (9223372036854775807 < (headB ((h.nums.set 0 x.toNat).set 5 body.size)).length + body.size) := by rw [headB_len]; omega
  obtain ⟨kind, frm, oper, view, opn, commit, client, session, request, a, b, parent⟩ := h
  have HR2 : Hid (∀ W : World, Fd W → Calls Tryd.prog 31 #[.agg #[.int .i64 kind, .int .i64 frm, .int .i64 oper, .int .i64 view, .int .i64 opn, .int .i64 commit, .int .i64 client, .int .i64 session, .int .i64 request, .int .i64 a, .int .i64 b, .int .u64 (parent : Int)]] W (VE W (.bool true))) := hid HR.out
  have HN2 : Hid (∀ W : World, Calls Tryd.prog 32 #[.agg #[.int .i64 kind, .int .i64 frm, .int .i64 oper, .int .i64 view, .int .i64 opn, .int .i64 commit, .int .i64 client, .int .i64 session, .int .i64 request, .int .i64 a, .int .i64 b, .int .u64 (parent : Int)]] W (VE W (.agg (av (Hd.nums ⟨kind, frm, oper, view, opn, commit, client, session, request, a, b, parent⟩)).toArray))) := hid HN.out
  show Calls Tryd.prog 20 #[.agg #[.int .i64 kind, .int .i64 frm, .int .i64 oper, .int .i64 view, .int .i64 opn, .int .i64 commit, .int .i64 client, .int .i64 session, .int .i64 request, .int .i64 a, .int .i64 b, .int .u64 (parent : Int)], .string body] w _
  generalize Hd.nums ⟨kind, frm, oper, view, opn, commit, client, session, request, a, b, parent⟩ = L at *
  have hb0 : Below w.heap.size w (w.alloc (.cells #[.int .i64 kind, .int .i64 frm, .int .i64 oper, .int .i64 view, .int .i64 opn, .int .i64 commit, .int .i64 client, .int .i64 session, .int .i64 request, .int .i64 a, .int .i64 b, .int .u64 (parent : Int)] 43)) := (Below.refl _ _).alloc (Nat.le_refl _) _
  have hl0 := Row.new w 43 #[.int .i64 kind, .int .i64 frm, .int .i64 oper, .int .i64 view, .int .i64 opn, .int .i64 commit, .int .i64 client, .int .i64 session, .int .i64 request, .int .i64 a, .int .i64 b, .int .u64 (parent : Int)]
  have hs0 : w.heap.size < (w.alloc (.cells #[.int .i64 kind, .int .i64 frm, .int .i64 oper, .int .i64 view, .int .i64 opn, .int .i64 commit, .int .i64 client, .int .i64 session, .int .i64 request, .int .i64 a, .int .i64 b, .int .u64 (parent : Int)] 43)).heap.size := by simp
  have HB := hid hb0
  have HS0 := hid hs0
  have HL0 := hid hl0
  have hcells : Hid (∀ W : World, Row W w.heap.size 43 (Hd.cells ⟨kind, frm, oper, view, opn, commit, client, session, request, a, b, parent⟩).toList → ∀ i u, (Hd.cells ⟨kind, frm, oper, view, opn, commit, client, session, request, a, b, parent⟩)[i]? = some u → W.cell? ⟨w.heap.size, i, none⟩ = some u) := hid fun W hr i u hu => by
    rw [hr.cell, Array.getElem?_toList]
    exact hu
  clear hb0 hl0 hs0 HR HN hset0 hset5 hnl hBl hfull hsl
  go_enter Tryd.func20, Tryd.ntmps20
  go_wp2_with (first
    | (go_at_call 31; refine (HR2.out _ (HF.out.below HB.out HF.out.1)).mono ?_; rintro e w1 ⟨rfl, hb1⟩;
        have hc := hcells.out w1 (HL0.out.below hb1 HS0.out); have q0 := hc 0 (.int .i64 kind) rfl; have q1 := hc 1 (.int .i64 frm) rfl; have q2 := hc 2 (.int .i64 oper) rfl; have q3 := hc 3 (.int .i64 view) rfl; have q4 := hc 4 (.int .i64 opn) rfl; have q5 := hc 5 (.int .i64 commit) rfl; have q6 := hc 6 (.int .i64 client) rfl; have q7 := hc 7 (.int .i64 session) rfl; have q8 := hc 8 (.int .i64 request) rfl; have q9 := hc 9 (.int .i64 a) rfl; have q10 := hc 10 (.int .i64 b) rfl; have q11 := hc 11 (.int .u64 (parent : Int)) rfl; clear hc)
    | (go_at_call 32; refine (HN2.out _).mono ?_; rintro e w2 ⟨rfl, hb2⟩)
    | (refine wpList_store_row rfl 53 (.tmp 6) (.tmp 14) rfl w2.heap.size (av L).toArray rfl rfl 53 #[.int .u64 0, .int .u64 0, .int .u64 0, .int .u64 0, .int .u64 0, .int .u64 0, .int .u64 0, .int .u64 0, .int .u64 0, .int .u64 0, .int .u64 0, .int .u64 0, .int .u64 0, .int .u64 0, .int .u64 0] (heap_alloc_new _ _) (by rw [HA.out]; kernel_rfl) (by rw [HA.out]; rfl) (by rw [Array.all_eq_true']; intro u hu; exact hone.out u (by simpa using hu)) ?_;
        have hr3 := setRow_row w2 #[.int .u64 0, .int .u64 0, .int .u64 0, .int .u64 0, .int .u64 0, .int .u64 0, .int .u64 0, .int .u64 0, .int .u64 0, .int .u64 0, .int .u64 0, .int .u64 0, .int .u64 0, .int .u64 0, .int .u64 0] (av L); generalize hw3 : (w2.alloc (.cells #[.int .u64 0, .int .u64 0, .int .u64 0, .int .u64 0, .int .u64 0, .int .u64 0, .int .u64 0, .int .u64 0, .int .u64 0, .int .u64 0, .int .u64 0, .int .u64 0, .int .u64 0, .int .u64 0, .int .u64 0] 53)).setRow w2.heap.size (av L).toArray = w3 at hr3 ⊢; have hb3 : Below w2.heap.size w2 w3 := (by rw [← hw3]; exact setRow_below w2 #[.int .u64 0, .int .u64 0, .int .u64 0, .int .u64 0, .int .u64 0, .int .u64 0, .int .u64 0, .int .u64 0, .int .u64 0, .int .u64 0, .int .u64 0, .int .u64 0, .int .u64 0, .int .u64 0, .int .u64 0] (av L));
        have hs3 := hr3.lt; have HR3 := hid hr3; clear hr3 hw3)
    | (go_at_call 33; refine (HS.out _).mono ?_; rintro e w4 ⟨rfl, hb4⟩; obtain ⟨y, z, q12, q13, q14, q15, q16, q17⟩ := HROW.out w4 w2.heap.size (HR3.out.below hb4 hs3); have HR4 := hid q16; have HR5 := hid q17; clear q16 q17;
        have hbA := ((((HB.out.trans (hb1.mono HB.out.size)).trans (hb2.mono (Nat.le_trans HB.out.size hb1.size))).trans (hb3.mono (Nat.le_trans HB.out.size (Nat.le_trans hb1.size hb2.size)))).trans (hb4.mono (Nat.le_trans HB.out.size (Nat.le_trans hb1.size (Nat.le_trans hb2.size hb3.size)))));
        have HBA := hid ((hbA.setCell (p := ⟨w2.heap.size, 0, none⟩) (Nat.le_trans HB.out.size (Nat.le_trans hb1.size hb2.size)) (.int .u64 (x.toNat : Int))).setCell (p := ⟨w2.heap.size, 5, none⟩) (Nat.le_trans HB.out.size (Nat.le_trans hb1.size hb2.size)) (.int .u64 ((body.size : Nat) : Int))); clear hbA)
    | (refine wpList_load_row rfl 53 (.tmp 6) rfl w2.heap.size rfl 53 (av ((L.set 0 x.toNat).set 5 body.size)).toArray (0, 0) _ HR5.out Tryd.underlying53 rfl (by rw [HA2.out]; kernel_rfl) ?_)
    | (go_at_call 34; refine (HLY.out _ (HF.out.below HBA.out HF.out.1)).mono ?_; rintro e w6 ⟨rfl, hb6⟩))
  go_ret2
  exact ⟨by rw [cat_sb]; rfl, HBA.out.trans (hb6.mono HBA.out.size)⟩

theorem pack_any (h : Hd) (body : ByteArray) (w : World) (hf : Fd w) : Calls Tryd.prog 20 #[h.val, .string body] w (SN w (packS h (sb body))) := by
  unfold packS
  have hl := sb_len body
  by_cases hfit : Fits h.nums
  · rw [if_neg (by simpa using hfit)]
    by_cases hlong : 3968 < (sb body).length
    · rw [if_pos hlong]
      exact pack_long h body w hf hfit (by omega)
    · rw [if_neg hlong]
      exact pack_ok h body w hf hfit (by omega)
  · rw [if_pos hfit]
    exact pack_form h body w hf hfit
end Go.Proofs.YtknalgobndbngaaDoor
