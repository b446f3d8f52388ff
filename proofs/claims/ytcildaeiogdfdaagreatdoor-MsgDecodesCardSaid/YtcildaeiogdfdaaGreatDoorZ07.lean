/-
  The walk of package head's Pack.
-/
import Derived.Test.YtcildaeiogdfdaaGreatDoorZ05
namespace Go.Proofs.YtcildaeiogdfdaaGreatDoor
open Go.RowKit
set_option maxRecDepth 10000

theorem full_fits (h : Hd) (body : List UInt8) (hf : Fits h.nums) (hb : body.length ≤ 3968) : Fits (full h body) := by
  refine ⟨full_len h body, fun k hk => ?_⟩
  have hk15 : k < 15 := by rw [← full_len h body]; exact hk
  simp only [full, List.getElem_set]
  split
  · rename_i e5
    subst e5
    show body.length ≤ 4294967295
    omega
  · split
    · rename_i e0
      subst e0
      have : (addS 0#32 body).toNat < 4294967296 := (addS 0#32 body).isLt
      show _ ≤ 4294967295
      omega
    · exact hf.2 k (by rw [nums_len]; exact hk15)
theorem cat_sb (a : List UInt8) (s : ByteArray) : (⟨a.toArray⟩ : ByteArray) ++ s = ⟨(a ++ sb s).toArray⟩ := by
  apply ByteArray.ext
  simp [sb]
theorem sum_str (s : ByteArray) (h : s.size ≤ 1000000) (W : World) : Calls Tryz.prog 45 #[.string s] W fun e w' => e = .returned (.int .u32 ((addS 0#32 (sb s)).toNat : Int)) ∧ Below W.heap.size W w' := sum_calls s W (by omega)
theorem setRow_row (w : World) (z : Array Value) (cs : List Value) : Row ((w.alloc (.cells z 70)).setRow w.heap.size cs.toArray) w.heap.size 70 cs := setRow_heap _ w.heap.size z cs.toArray 70 (0, 0) (heap_alloc_new _ _)
theorem setRow_below (w : World) (z : Array Value) (cs : List Value) : Below w.heap.size w ((w.alloc (.cells z 70)).setRow w.heap.size cs.toArray) :=
  ((Below.refl _ _).alloc (Nat.le_refl _) _).trans (below_grown (grownBy_setRow _ w.heap.size _) (Nat.le_refl _) (by simp))
set_option maxHeartbeats 1000000 in
theorem pack_form (h : Hd) (body : ByteArray) (w : World) (hf : Fd w) (hno : ¬ Fits h.nums) : Calls Tryz.prog 20 #[h.val, .string body] w (SN w ([], 4)) := by
  have HR : Hid (∀ W, Fd W → Calls Tryz.prog 43 #[h.val] W (VE W (.bool false))) := hid fun W hW => by
    have := right_any h W hW
    rwa [decide_eq_false hno] at this
  have HF := hid hf
  clear hno hf
  obtain ⟨kind, frm, oper, view, opn, commit, client, session, request, a, b, parent⟩ := h
  have HR2 : Hid (∀ W : World, Fd W → Calls Tryz.prog 43 #[.agg #[.int .i64 kind, .int .i64 frm, .int .i64 oper, .int .i64 view, .int .i64 opn, .int .i64 commit, .int .i64 client, .int .i64 session, .int .i64 request, .int .i64 a, .int .i64 b, .int .u64 (parent : Int)]] W (VE W (.bool false))) := hid HR.out
  show Calls Tryz.prog 20 #[.agg #[.int .i64 kind, .int .i64 frm, .int .i64 oper, .int .i64 view, .int .i64 opn, .int .i64 commit, .int .i64 client, .int .i64 session, .int .i64 request, .int .i64 a, .int .i64 b, .int .u64 (parent : Int)], .string body] w _
  have hb0 : Below w.heap.size w (w.alloc (.cells #[.int .i64 kind, .int .i64 frm, .int .i64 oper, .int .i64 view, .int .i64 opn, .int .i64 commit, .int .i64 client, .int .i64 session, .int .i64 request, .int .i64 a, .int .i64 b, .int .u64 (parent : Int)] 42)) := (Below.refl _ _).alloc (Nat.le_refl _) _
  have HB := hid hb0
  clear hb0 HR
  go_enter Tryz.func20, Tryz.ntmps20
  go_wp2_with (go_at_call 43; refine (HR2.out _ (HF.out.below HB.out HF.out.1)).mono ?_; rintro e w1 ⟨rfl, hb1⟩)
  go_ret2
  exact ⟨rfl, HB.out.trans (hb1.mono HB.out.size)⟩
set_option maxHeartbeats 1000000 in
theorem pack_long (h : Hd) (body : ByteArray) (w : World) (hf : Fd w) (hyes : Fits h.nums) (hlong : 3968 < (body.size : Int)) : Calls Tryz.prog 20 #[h.val, .string body] w (SN w ([], 5)) := by
  have HR : Hid (∀ W, Fd W → Calls Tryz.prog 43 #[h.val] W (VE W (.bool true))) := hid fun W hW => by
    have := right_any h W hW
    rwa [decide_eq_true hyes] at this
  have HF := hid hf
  clear hyes hf
  obtain ⟨kind, frm, oper, view, opn, commit, client, session, request, a, b, parent⟩ := h
  have HR2 : Hid (∀ W : World, Fd W → Calls Tryz.prog 43 #[.agg #[.int .i64 kind, .int .i64 frm, .int .i64 oper, .int .i64 view, .int .i64 opn, .int .i64 commit, .int .i64 client, .int .i64 session, .int .i64 request, .int .i64 a, .int .i64 b, .int .u64 (parent : Int)]] W (VE W (.bool true))) := hid HR.out
  show Calls Tryz.prog 20 #[.agg #[.int .i64 kind, .int .i64 frm, .int .i64 oper, .int .i64 view, .int .i64 opn, .int .i64 commit, .int .i64 client, .int .i64 session, .int .i64 request, .int .i64 a, .int .i64 b, .int .u64 (parent : Int)], .string body] w _
  have hb0 : Below w.heap.size w (w.alloc (.cells #[.int .i64 kind, .int .i64 frm, .int .i64 oper, .int .i64 view, .int .i64 opn, .int .i64 commit, .int .i64 client, .int .i64 session, .int .i64 request, .int .i64 a, .int .i64 b, .int .u64 (parent : Int)] 42)) := (Below.refl _ _).alloc (Nat.le_refl _) _
  have HB := hid hb0
  clear hb0 HR
  go_enter Tryz.func20, Tryz.ntmps20
  go_wp2_with (go_at_call 43; refine (HR2.out _ (HF.out.below HB.out HF.out.1)).mono ?_; rintro e w1 ⟨rfl, hb1⟩)
  go_ret2
  exact ⟨rfl, HB.out.trans (hb1.mono HB.out.size)⟩
set_option maxHeartbeats 1000000 in
theorem pack_ok (h : Hd) (body : ByteArray) (w : World) (hf : Fd w) (hyes : Fits h.nums) (hroom : body.size ≤ 3968) : Calls Tryz.prog 20 #[h.val, .string body] w (SN w (headB (full h (sb body)) ++ sb body, 0)) := by
  have HR : Hid (∀ W, Fd W → Calls Tryz.prog 43 #[h.val] W (VE W (.bool true))) := hid fun W hW => by
    have := right_any h W hW
    rwa [decide_eq_true hyes] at this
  have HF := hid hf
  have hsl := sb_len body
  have hff := full_fits h (sb body) hyes (by omega)
  have HLY := hid (fun W hW => layh_any (full h (sb body)) hff W hW)
  have HN := hid (fun W => numbers_any h W)
  have HS := hid (fun W => sum_str body (by omega) W)
  have hnl := nums_len h
  have hBl := headB_len (full h (sb body))
  have hroomI : ¬ (3968 < (body.size : Int)) := by omega
  clear hyes hf hff
  have hfull : full h (sb body) = (h.nums.set 0 (addS 0#32 (sb body)).toNat).set 5 body.size := by rw [full, hsl]
  rw [hfull] at HLY ⊢
  have hset0 : ∀ x, (av h.nums).set 0 (.int .u64 (x : Nat)) = av (h.nums.set 0 x) := fun x => av_set _ _ _
  generalize addS 0#32 (sb body) = x at *
  have hx : x.toNat < 4294967296 := x.isLt
  have hset5 : ∀ l : List Nat, (av l).set 5 (.int .u64 ((body.size : Nat) : Int)) = av (l.set 5 body.size) := fun l => av_set _ _ _
  have HA : Hid ((av h.nums).toArray.size = 15) := hid (by simp [av, hnl])
  have HA2 : Hid ((av ((h.nums.set 0 x.toNat).set 5 body.size)).toArray.size = 15) := hid (by simp [av, hnl])
  have hone : Hid (∀ u ∈ av h.nums, u.oneCell' = true) := hid (av_one _)
  have HROW : Hid (∀ (W : World) (g : Nat), Row W g 70 (av h.nums) → ∃ y z : Nat, W.cell? ⟨g, 0, none⟩ = some (.int .u64 (y : Int)) ∧ W.frozen? ⟨g, 0, none⟩ = false ∧ (W.setCell ⟨g, 0, none⟩ (.int .u64 (x.toNat : Int))).cell? ⟨g, 5, none⟩ = some (.int .u64 (z : Int)) ∧ (W.setCell ⟨g, 0, none⟩ (.int .u64 (x.toNat : Int))).frozen? ⟨g, 5, none⟩ = false ∧ Row ((W.setCell ⟨g, 0, none⟩ (.int .u64 (x.toNat : Int)))) g 70 (av (h.nums.set 0 x.toNat)) ∧ Row ((W.setCell ⟨g, 0, none⟩ (.int .u64 (x.toNat : Int))).setCell ⟨g, 5, none⟩ (.int .u64 ((body.size : Nat) : Int))) g 70 (av ((h.nums.set 0 x.toNat).set 5 body.size))) := hid fun W g hr => by
    have h1 := hr.set_ 0 (.int .u64 (x.toNat : Int))
    rw [av_set] at h1
    have h2 := h1.set_ 5 (.int .u64 ((body.size : Nat) : Int))
    rw [av_set] at h2
    exact ⟨_, _, (hr.cell 0).trans (av_get _ 0 (by rw [hnl]; omega)), hr.frozen _, (h1.cell 5).trans (av_get _ 5 (by simp [hnl])), h1.frozen _, h1, h2⟩
  have hcat : ¬ (9223372036854775807 < (headB ((h.nums.set 0 x.toNat).set 5 body.size)).length + body.size) := by rw [headB_len]; omega
  obtain ⟨kind, frm, oper, view, opn, commit, client, session, request, a, b, parent⟩ := h
  have HR2 : Hid (∀ W : World, Fd W → Calls Tryz.prog 43 #[.agg #[.int .i64 kind, .int .i64 frm, .int .i64 oper, .int .i64 view, .int .i64 opn, .int .i64 commit, .int .i64 client, .int .i64 session, .int .i64 request, .int .i64 a, .int .i64 b, .int .u64 (parent : Int)]] W (VE W (.bool true))) := hid HR.out
  have HN2 : Hid (∀ W : World, Calls Tryz.prog 44 #[.agg #[.int .i64 kind, .int .i64 frm, .int .i64 oper, .int .i64 view, .int .i64 opn, .int .i64 commit, .int .i64 client, .int .i64 session, .int .i64 request, .int .i64 a, .int .i64 b, .int .u64 (parent : Int)]] W (VE W (.agg (av (Hd.nums ⟨kind, frm, oper, view, opn, commit, client, session, request, a, b, parent⟩)).toArray))) := hid HN.out
  show Calls Tryz.prog 20 #[.agg #[.int .i64 kind, .int .i64 frm, .int .i64 oper, .int .i64 view, .int .i64 opn, .int .i64 commit, .int .i64 client, .int .i64 session, .int .i64 request, .int .i64 a, .int .i64 b, .int .u64 (parent : Int)], .string body] w _
  generalize Hd.nums ⟨kind, frm, oper, view, opn, commit, client, session, request, a, b, parent⟩ = L at *
  have hb0 : Below w.heap.size w (w.alloc (.cells #[.int .i64 kind, .int .i64 frm, .int .i64 oper, .int .i64 view, .int .i64 opn, .int .i64 commit, .int .i64 client, .int .i64 session, .int .i64 request, .int .i64 a, .int .i64 b, .int .u64 (parent : Int)] 42)) := (Below.refl _ _).alloc (Nat.le_refl _) _
  have hl0 := Row.new w 42 #[.int .i64 kind, .int .i64 frm, .int .i64 oper, .int .i64 view, .int .i64 opn, .int .i64 commit, .int .i64 client, .int .i64 session, .int .i64 request, .int .i64 a, .int .i64 b, .int .u64 (parent : Int)]
  have hs0 : w.heap.size < (w.alloc (.cells #[.int .i64 kind, .int .i64 frm, .int .i64 oper, .int .i64 view, .int .i64 opn, .int .i64 commit, .int .i64 client, .int .i64 session, .int .i64 request, .int .i64 a, .int .i64 b, .int .u64 (parent : Int)] 42)).heap.size := by simp
  have HB := hid hb0
  have HS0 := hid hs0
  have HL0 := hid hl0
  have hcells : Hid (∀ W : World, Row W w.heap.size 42 (Hd.cells ⟨kind, frm, oper, view, opn, commit, client, session, request, a, b, parent⟩).toList → ∀ i u, (Hd.cells ⟨kind, frm, oper, view, opn, commit, client, session, request, a, b, parent⟩)[i]? = some u → W.cell? ⟨w.heap.size, i, none⟩ = some u) := hid fun W hr i u hu => by
    rw [hr.cell, Array.getElem?_toList]
    exact hu
  clear hb0 hl0 hs0 HR HN hset0 hset5 hnl hBl hfull hsl
  go_enter Tryz.func20, Tryz.ntmps20
  go_wp2_with (first
    | (go_at_call 43; refine (HR2.out _ (HF.out.below HB.out HF.out.1)).mono ?_; rintro e w1 ⟨rfl, hb1⟩;
        have hc := hcells.out w1 (HL0.out.below hb1 HS0.out); have q0 := hc 0 (.int .i64 kind) rfl; have q1 := hc 1 (.int .i64 frm) rfl; have q2 := hc 2 (.int .i64 oper) rfl; have q3 := hc 3 (.int .i64 view) rfl; have q4 := hc 4 (.int .i64 opn) rfl; have q5 := hc 5 (.int .i64 commit) rfl; have q6 := hc 6 (.int .i64 client) rfl; have q7 := hc 7 (.int .i64 session) rfl; have q8 := hc 8 (.int .i64 request) rfl; have q9 := hc 9 (.int .i64 a) rfl; have q10 := hc 10 (.int .i64 b) rfl; have q11 := hc 11 (.int .u64 (parent : Int)) rfl; clear hc)
    | (go_at_call 44; refine (HN2.out _).mono ?_; rintro e w2 ⟨rfl, hb2⟩)
    | (refine wpList_store_row rfl 70 (.tmp 6) (.tmp 14) rfl w2.heap.size (av L).toArray rfl rfl 70 #[.int .u64 0, .int .u64 0, .int .u64 0, .int .u64 0, .int .u64 0, .int .u64 0, .int .u64 0, .int .u64 0, .int .u64 0, .int .u64 0, .int .u64 0, .int .u64 0, .int .u64 0, .int .u64 0, .int .u64 0] (heap_alloc_new _ _) (by rw [HA.out]; kernel_rfl) (by rw [HA.out]; rfl) (by rw [Array.all_eq_true']; intro u hu; exact hone.out u (by simpa using hu)) ?_;
        have hr3 := setRow_row w2 #[.int .u64 0, .int .u64 0, .int .u64 0, .int .u64 0, .int .u64 0, .int .u64 0, .int .u64 0, .int .u64 0, .int .u64 0, .int .u64 0, .int .u64 0, .int .u64 0, .int .u64 0, .int .u64 0, .int .u64 0] (av L); generalize hw3 : (w2.alloc (.cells #[.int .u64 0, .int .u64 0, .int .u64 0, .int .u64 0, .int .u64 0, .int .u64 0, .int .u64 0, .int .u64 0, .int .u64 0, .int .u64 0, .int .u64 0, .int .u64 0, .int .u64 0, .int .u64 0, .int .u64 0] 70)).setRow w2.heap.size (av L).toArray = w3 at hr3 ⊢; have hb3 : Below w2.heap.size w2 w3 := (by rw [← hw3]; exact setRow_below w2 #[.int .u64 0, .int .u64 0, .int .u64 0, .int .u64 0, .int .u64 0, .int .u64 0, .int .u64 0, .int .u64 0, .int .u64 0, .int .u64 0, .int .u64 0, .int .u64 0, .int .u64 0, .int .u64 0, .int .u64 0] (av L));
        have hs3 := hr3.lt; have HR3 := hid hr3; clear hr3 hw3)
    | (go_at_call 45; refine (HS.out _).mono ?_; rintro e w4 ⟨rfl, hb4⟩; obtain ⟨y, z, q12, q13, q14, q15, q16, q17⟩ := HROW.out w4 w2.heap.size (HR3.out.below hb4 hs3); have HR4 := hid q16; have HR5 := hid q17; clear q16 q17;
        have hbA := ((((HB.out.trans (hb1.mono HB.out.size)).trans (hb2.mono (Nat.le_trans HB.out.size hb1.size))).trans (hb3.mono (Nat.le_trans HB.out.size (Nat.le_trans hb1.size hb2.size)))).trans (hb4.mono (Nat.le_trans HB.out.size (Nat.le_trans hb1.size (Nat.le_trans hb2.size hb3.size)))));
        have HBA := hid ((hbA.setCell (p := ⟨w2.heap.size, 0, none⟩) (Nat.le_trans HB.out.size (Nat.le_trans hb1.size hb2.size)) (.int .u64 (x.toNat : Int))).setCell (p := ⟨w2.heap.size, 5, none⟩) (Nat.le_trans HB.out.size (Nat.le_trans hb1.size hb2.size)) (.int .u64 ((body.size : Nat) : Int))); clear hbA)
    | (refine wpList_load_row rfl 70 (.tmp 6) rfl w2.heap.size rfl 70 (av ((L.set 0 x.toNat).set 5 body.size)).toArray (0, 0) _ HR5.out Tryz.underlying70 rfl (by rw [HA2.out]; kernel_rfl) ?_)
    | (go_at_call 46; refine (HLY.out _ (HF.out.below HBA.out HF.out.1)).mono ?_; rintro e w6 ⟨rfl, hb6⟩))
  go_ret2
  exact ⟨by rw [cat_sb]; rfl, HBA.out.trans (hb6.mono HBA.out.size)⟩
theorem pack_any (h : Hd) (body : ByteArray) (w : World) (hf : Fd w) : Calls Tryz.prog 20 #[h.val, .string body] w (SN w (packS h (sb body))) := by
  unfold packS
  have hl := sb_len body
  by_cases hfit : Fits h.nums
  · rw [if_neg (by simpa using hfit)]
    by_cases hlong : 3968 < (sb body).length
    · rw [if_pos hlong]
      exact pack_long h body w hf hfit (by omega)
    · rw [if_neg hlong]
      exact pack_ok h body w hf hfit (by omega)
  · rw [if_pos hfit]
    exact pack_form h body w hf hfit
end Go.Proofs.YtcildaeiogdfdaaGreatDoor
/-
  The walk of the document's Right.
-/
namespace Go.Proofs.YtcildaeiogdfdaaGreatDoor
open Go.RowKit
set_option maxRecDepth 10000

theorem small_any (n : Int) (b : Bool) (w : World) (h : b = decide (0 ≤ n ∧ n ≤ 255)) : Calls Tryz.prog 86 #[.int .i64 n] w fun e w' => e = .returned (.bool b) ∧ w = w' := by
  subst h
  by_cases h0 : 0 ≤ n
  · by_cases h1 : n ≤ 255
    · go_enter Tryz.func86, Tryz.ntmps86
      go_wp2
      go_ret
      exact ⟨by simp [h0, h1], rfl⟩
    · go_enter Tryz.func86, Tryz.ntmps86
      go_wp2
      go_ret
      exact ⟨by simp [h1], rfl⟩
  · have h2 : decide (0 ≤ n) = false := by simp; omega
    go_enter Tryz.func86, Tryz.ntmps86
    go_wp2
    go_ret
    exact ⟨by simp, rfl⟩
theorem fits_any (n : Int) (b : Bool) (w : World) (h : b = decide (0 ≤ n ∧ n ≤ 72057594037927935)) : Calls Tryz.prog 87 #[.int .i64 n] w fun e w' => e = .returned (.bool b) ∧ w = w' := by
  subst h
  by_cases h0 : 0 ≤ n
  · by_cases h1 : n ≤ 72057594037927935
    · go_enter Tryz.func87, Tryz.ntmps87
      go_wp2
      go_ret
      exact ⟨by simp [h0, h1], rfl⟩
    · go_enter Tryz.func87, Tryz.ntmps87
      go_wp2
      go_ret
      exact ⟨by simp [h1], rfl⟩
  · have h2 : decide (0 ≤ n) = false := by simp; omega
    go_enter Tryz.func87, Tryz.ntmps87
    go_wp2
    go_ret
    exact ⟨by simp, rfl⟩
def sm (n : Int) : Bool := decide (0 ≤ n ∧ n ≤ 255)
def ft (n : Int) : Bool := decide (0 ≤ n ∧ n ≤ 72057594037927935)
def rightS (h : Hd) : Bool := sm h.kind && sm h.frm && sm h.oper && ft h.view && ft h.opn && ft h.commit && ft h.client && ft h.session && ft h.request && ft h.a && ft h.b
set_option maxHeartbeats 2000000 in
theorem rright_any (h : Hd) (w : World) : Calls Tryz.prog 58 #[h.val] w fun e w' => e = .returned (.bool (rightS h)) ∧ Below w.heap.size w w' := by
  obtain ⟨kind, frm, oper, view, opn, commit, client, session, request, a, b, parent⟩ := h
  show Calls Tryz.prog 58 #[.agg #[.int .i64 kind, .int .i64 frm, .int .i64 oper, .int .i64 view, .int .i64 opn, .int .i64 commit, .int .i64 client, .int .i64 session, .int .i64 request, .int .i64 a, .int .i64 b, .int .u64 (parent : Int)]] w fun e w' => e = .returned (.bool (sm kind && sm frm && sm oper && ft view && ft opn && ft commit && ft client && ft session && ft request && ft a && ft b)) ∧ Below w.heap.size w w'
  have H0 := hid (fun W => small_any kind (sm kind) W rfl)
  have H1 := hid (fun W => small_any frm (sm frm) W rfl)
  have H2 := hid (fun W => small_any oper (sm oper) W rfl)
  have H3 := hid (fun W => fits_any view (ft view) W rfl)
  have H4 := hid (fun W => fits_any opn (ft opn) W rfl)
  have H5 := hid (fun W => fits_any commit (ft commit) W rfl)
  have H6 := hid (fun W => fits_any client (ft client) W rfl)
  have H7 := hid (fun W => fits_any session (ft session) W rfl)
  have H8 := hid (fun W => fits_any request (ft request) W rfl)
  have H9 := hid (fun W => fits_any a (ft a) W rfl)
  have H10 := hid (fun W => fits_any b (ft b) W rfl)
  generalize sm kind = b0 at *
  generalize sm frm = b1 at *
  generalize sm oper = b2 at *
  generalize ft view = b3 at *
  generalize ft opn = b4 at *
  generalize ft commit = b5 at *
  generalize ft client = b6 at *
  generalize ft session = b7 at *
  generalize ft request = b8 at *
  generalize ft a = b9 at *
  generalize ft b = b10 at *
  go_enter Tryz.func58, Tryz.ntmps58
  go_wp2_with (first
    | (go_at_call_of 86 (Value.int .i64 kind); refine (H0.out _).mono ?_; rintro e w' ⟨rfl, rfl⟩)
    | (go_at_call_of 86 (Value.int .i64 frm); refine (H1.out _).mono ?_; rintro e w' ⟨rfl, rfl⟩)
    | (go_at_call_of 86 (Value.int .i64 oper); refine (H2.out _).mono ?_; rintro e w' ⟨rfl, rfl⟩)
    | (go_at_call_of 87 (Value.int .i64 view); refine (H3.out _).mono ?_; rintro e w' ⟨rfl, rfl⟩)
    | (go_at_call_of 87 (Value.int .i64 opn); refine (H4.out _).mono ?_; rintro e w' ⟨rfl, rfl⟩)
    | (go_at_call_of 87 (Value.int .i64 commit); refine (H5.out _).mono ?_; rintro e w' ⟨rfl, rfl⟩)
    | (go_at_call_of 87 (Value.int .i64 client); refine (H6.out _).mono ?_; rintro e w' ⟨rfl, rfl⟩)
    | (go_at_call_of 87 (Value.int .i64 session); refine (H7.out _).mono ?_; rintro e w' ⟨rfl, rfl⟩)
    | (go_at_call_of 87 (Value.int .i64 request); refine (H8.out _).mono ?_; rintro e w' ⟨rfl, rfl⟩)
    | (go_at_call_of 87 (Value.int .i64 a); refine (H9.out _).mono ?_; rintro e w' ⟨rfl, rfl⟩)
    | (go_at_call_of 87 (Value.int .i64 b); refine (H10.out _).mono ?_; rintro e w' ⟨rfl, rfl⟩))
  all_goals (go_ret; exact ⟨by clear H0 H1 H2 H3 H4 H5 H6 H7 H8 H9 H10; simp [*], (Below.refl _ _).alloc (Nat.le_refl _) _⟩)
end Go.Proofs.YtcildaeiogdfdaaGreatDoor
/-
  Plain words on headers: which may be, what is packed and read again, what was turned, cut or grown is found.
-/
namespace Go.Proofs.YtcildaeiogdfdaaGreatDoor
open Go.RowKit

/-! ### which headers may be -/
theorem fits_iff (h : Hd) (hp : h.parent < 18446744073709551616) : Fits h.nums ↔ (un h.kind ≤ 255 ∧ un h.frm ≤ 255 ∧ un h.oper ≤ 255) ∧ (un h.view ≤ 72057594037927935 ∧ un h.opn ≤ 72057594037927935 ∧ un h.commit ≤ 72057594037927935 ∧ un h.client ≤ 72057594037927935) ∧
    (un h.session ≤ 72057594037927935 ∧ un h.request ≤ 72057594037927935 ∧ un h.a ≤ 72057594037927935 ∧ un h.b ≤ 72057594037927935) := by
  constructor
  · rintro ⟨_, hf⟩
    have hl := nums_len h
    exact ⟨⟨hf 1 (by omega), hf 2 (by omega), hf 3 (by omega)⟩, ⟨hf 7 (by omega), hf 8 (by omega), hf 9 (by omega), hf 10 (by omega)⟩, hf 11 (by omega), hf 12 (by omega), hf 13 (by omega), hf 14 (by omega)⟩
  · rintro ⟨⟨h1, h2, h3⟩, ⟨h7, h8, h9, h10⟩, h11, h12, h13, h14⟩
    refine ⟨rfl, fun k hk => ?_⟩
    match k, hk with
    | 0, _ => exact Nat.zero_le _
    | 1, _ => exact h1
    | 2, _ => exact h2
    | 3, _ => exact h3
    | 4, _ => exact Nat.zero_le _
    | 5, _ => exact Nat.zero_le _
    | 6, _ => exact Nat.le_of_lt_succ hp
    | 7, _ => exact h7
    | 8, _ => exact h8
    | 9, _ => exact h9
    | 10, _ => exact h10
    | 11, _ => exact h11
    | 12, _ => exact h12
    | 13, _ => exact h13
    | 14, _ => exact h14
    | k + 15, hk => exact absurd hk (by rw [nums_len]; omega)
theorem un_small {x : Int} (hx : In64 x) : un x ≤ 255 ↔ 0 ≤ x ∧ x ≤ 255 := by
  have h := un_eq x
  have h0 := un_lt x
  unfold In64 at hx
  omega
theorem un_fits {x : Int} (hx : In64 x) : un x ≤ 72057594037927935 ↔ 0 ≤ x ∧ x ≤ 72057594037927935 := by
  have h := un_eq x
  have h0 := un_lt x
  unfold In64 at hx
  omega
theorem right_fits (h : Hd) (hh : h.fits) : rightS h = decide (Fits h.nums) := by
  obtain ⟨⟨a1, a2, a3, a4, a5, a6⟩, ⟨b1, b2, b3, b4, b5⟩, hp⟩ := hh
  unfold rightS sm ft
  rw [Bool.eq_iff_iff, decide_eq_true_iff, fits_iff h hp, un_small a1, un_small a2, un_small a3, un_fits a4, un_fits a5, un_fits a6, un_fits b1, un_fits b2, un_fits b3, un_fits b4, un_fits b5]
  simp only [Bool.and_eq_true, decide_eq_true_eq]
  constructor
  · rintro ⟨⟨⟨⟨⟨⟨⟨⟨⟨⟨c1, c2⟩, c3⟩, c4⟩, c5⟩, c6⟩, c7⟩, c8⟩, c9⟩, c10⟩, c11⟩
    exact ⟨⟨c1, c2, c3⟩, ⟨c4, c5, c6, c7⟩, c8, c9, c10, c11⟩
  · rintro ⟨⟨c1, c2, c3⟩, ⟨c4, c5, c6, c7⟩, c8, c9, c10, c11⟩
    exact ⟨⟨⟨⟨⟨⟨⟨⟨⟨⟨c1, c2⟩, c3⟩, c4⟩, c5⟩, c6⟩, c7⟩, c8⟩, c9⟩, c10⟩, c11⟩
/-! ### the bytes of one place -/
theorem fl_part (l : List Nat) : ∀ m k, k < m → ∃ t, fl l m = fl l k ++ (le (l.getD k 0) (sz k) ++ t)
  | 0, _, h => by omega
  | m + 1, k, h => by
    by_cases e : k = m
    · subst e
      exact ⟨[], by simp [fl]⟩
    · obtain ⟨t, ht⟩ := fl_part l m k (by omega)
      exact ⟨t ++ le (l.getD m 0) (sz m), by rw [fl, ht]; simp⟩
theorem place (l : List Nat) (body : List UInt8) (k : Nat) (hk : k < 15) : ((headB l ++ body).drop (4 + off k)).take (sz k) = le (l.getD k 0) (sz k) := by
  obtain ⟨t, ht⟩ := fl_part l 15 k hk
  have h4 := sumS_len (restS l)
  have hf := fl_len l k
  have e : headB l ++ body = (sumS (restS l) ++ fl l k) ++ (le (l.getD k 0) (sz k) ++ (t ++ List.replicate 40 0 ++ body)) := by
    have e1 : restS l = fl l k ++ (le (l.getD k 0) (sz k) ++ (t ++ List.replicate 40 0)) := by
      rw [restS, ht]
      simp only [List.append_assoc]
    unfold headB
    rw [show sumS (restS l) ++ restS l = sumS (restS l) ++ (fl l k ++ (le (l.getD k 0) (sz k) ++ (t ++ List.replicate 40 0))) from congrArg (fun z => sumS (restS l) ++ z) e1]
    simp only [List.append_assoc]
  have hl : (sumS (restS l) ++ fl l k).length = 4 + off k := by rw [List.length_append, h4, hf]
  rw [e, ← hl, List.drop_left, List.take_append_of_le_length (by rw [le_len]; exact Nat.le_refl _), List.take_of_length_le (by rw [le_len]; exact Nat.le_refl _)]
theorem tk_head (l : List Nat) (hf : Fits l) (k : Nat) (hk : k < 15) : tk (headB l) k = l.getD k 0 := by
  have h := place l [] k hk
  rw [List.append_nil] at h
  have hkl : k < l.length := by rw [hf.1]; exact hk
  unfold tk
  rw [h]
  refine leV_le _ _ (Nat.div_eq_of_lt (Nat.lt_of_le_of_lt ?_ (mo_lt k hk)))
  have := hf.2 k hkl
  simpa [hkl] using this
theorem takeN_head (l : List Nat) (hf : Fits l) : takeN (headB l) = l := by
  apply List.ext_getElem
  · rw [hf.1]; simp [takeN]
  · intro k h1 h2
    have hk : k < 15 := by rw [← hf.1]; exact h2
    have := tk_head l hf k hk
    simp only [takeN, List.getElem_map, List.getElem_range, this]
    simp [h2]
theorem sg_un {x : Int} (hx : In64 x) : sg (un x) = x := by
  have h := un_eq x
  unfold In64 at hx
  unfold sg wrap64
  omega
theorem hdOf_full (h : Hd) (body : List UInt8) (hh : h.fits) : hdOf (full h body) = h := by
  obtain ⟨⟨a1, a2, a3, a4, a5, a6⟩, ⟨b1, b2, b3, b4, b5⟩, hp⟩ := hh
  obtain ⟨kind, frm, oper, view, opn, commit, client, session, request, a, b, parent⟩ := h
  show (⟨sg (un kind), sg (un frm), sg (un oper), sg (un view), sg (un opn), sg (un commit), sg (un client), sg (un session), sg (un request), sg (un a), sg (un b), parent⟩ : Hd) = _
  rw [sg_un a1, sg_un a2, sg_un a3, sg_un a4, sg_un a5, sg_un a6, sg_un b1, sg_un b2, sg_un b3, sg_un b4, sg_un b5]
/-! ### packed and read again -/
/-- what is packed is so -/
theorem packS_ok {h : Hd} {body s : List UInt8} (e : packS h body = (s, 0)) : Fits h.nums ∧ body.length ≤ 3968 ∧ s = headB (full h body) ++ body := by
  unfold packS at e
  split at e
  · simp at e
  · rename_i hf
    split at e
    · simp at e
    · rename_i hl
      exact ⟨by simpa using hf, by omega, (Prod.mk.inj e).1.symm⟩
theorem packS_yes {h : Hd} {body : List UInt8} (hf : Fits h.nums) (hl : body.length ≤ 3968) : packS h body = (headB (full h body) ++ body, 0) := by
  unfold packS
  rw [if_neg (by simpa using hf), if_neg (by omega)]
theorem unpack_pack {h : Hd} {body s : List UInt8} (hh : h.fits) (e : packS h body = (s, 0)) : unpackS s = (h, body, 0) := by
  obtain ⟨hf, hl, rfl⟩ := packS_ok e
  have h128 := headB_len (full h body)
  have e1 : (headB (full h body) ++ body).take 128 = headB (full h body) := by rw [← h128, List.take_left]
  have e2 : (headB (full h body) ++ body).drop 128 = body := by rw [← h128, List.drop_left]
  have hff := full_fits h body hf hl
  unfold unpackS
  rw [if_neg (by rw [List.length_append, h128]; omega), e1, e2, takeN_head _ hff, hdOf_full h body hh, if_pos e]
theorem pack_inj {h g : Hd} {a b s : List UInt8} (hh : h.fits) (hg : g.fits) (e1 : packS h a = (s, 0)) (e2 : packS g b = (s, 0)) : h = g ∧ a = b := by
  have h1 := unpack_pack hh e1
  rw [unpack_pack hg e2] at h1
  simp only [Prod.mk.injEq, and_true] at h1
  exact ⟨h1.1.symm, h1.2.symm⟩
/-! ### turned, cut, grown -/
end Go.Proofs.YtcildaeiogdfdaaGreatDoor
