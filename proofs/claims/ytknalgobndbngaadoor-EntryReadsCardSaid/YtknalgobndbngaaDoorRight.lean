/-
  The walk of package head's Right.
-/
import Derived.Test.YtknalgobndbngaaDoorHnum
namespace Go.Proofs.YtknalgobndbngaaDoor
open Go.RowKit
set_option maxRecDepth 10000

theorem right_no (l : List Nat) (k : Nat) (hk : k < l.length) (h : mo k < l[k]) : ¬ Fits l := fun hf => by
  have := hf.2 k hk
  omega

set_option maxHeartbeats 1000000 in
theorem right_any (h : Hd) (w : World) (hf : Fd w) : Calls Tryd.prog 31 #[h.val] w (VE w (.bool (decide (Fits h.nums)))) := by
  have hl := nums_len h
  have HN := hid (fun W => numbers_any h W)
  have HF := hid hf
  clear hf
  obtain ⟨kind, frm, oper, view, opn, commit, client, session, request, a, b, parent⟩ := h
  have HN2 : Hid (∀ W : World, Calls Tryd.prog 32 #[.agg #[.int .i64 kind, .int .i64 frm, .int .i64 oper, .int .i64 view, .int .i64 opn, .int .i64 commit, .int .i64 client, .int .i64 session, .int .i64 request, .int .i64 a, .int .i64 b, .int .u64 (parent : Int)]] W (VE W (.agg (av (Hd.nums ⟨kind, frm, oper, view, opn, commit, client, session, request, a, b, parent⟩)).toArray))) := hid HN.out
  show Calls Tryd.prog 31 #[.agg #[.int .i64 kind, .int .i64 frm, .int .i64 oper, .int .i64 view, .int .i64 opn, .int .i64 commit, .int .i64 client, .int .i64 session, .int .i64 request, .int .i64 a, .int .i64 b, .int .u64 (parent : Int)]] w _
  generalize Hd.nums ⟨kind, frm, oper, view, opn, commit, client, session, request, a, b, parent⟩ = L at *
  clear HN
  have HL := hid hl
  clear hl
  go_enter Tryd.func31, Tryd.ntmps31
  go_wp2_with (go_at_call 32; refine (HN2.out _).mono ?_; rintro e w1 ⟨rfl, hb1⟩)
  have hb : Below w.heap.size w w1 := ((Below.refl _ _).alloc (Nat.le_refl _) _).trans (hb1.mono (by simp))
  have HF1 := hid (HF.out.below hb HF.out.1)
  have HB := hid hb
  clear hb hb1
  go_loop [7] (fun i => ∃ k : Nat, k ≤ 15 ∧ i = .int .i64 k ∧ Hid (∀ j (hj : j < L.length), j < k → L[j] ≤ mo j)) (fun i => 15 - (intOf i).toNat)
  case atStart => exact ⟨0, by omega, rfl, hid (fun j _ hj => by omega)⟩
  case round =>
    obtain ⟨k, hk, rfl, hpast⟩ := hrel
    by_cases hlt : k < 15
    · have hkl : k < L.length := by rw [HL.out]; exact hlt
      have hix := run_index_arr (P := Tryd.prog) w1 53 22 15 (av L).toArray .i64 k _ .u64 Tryd.underlying53 Tryd.underlying22 (by kernel_rfl) hlt (by simpa using av_get L k hkl)
      have hc := HF1.out.most hlt
      generalize hx : L[k] = x at hix
      generalize hm : mo k = m at hc
      have HX := hid hx
      have HM := hid hm
      clear hx hm
      by_cases hle : x ≤ m
      · go_wp2_with fail
        refine ⟨⟨k + 1, by omega, by go_num, hid (fun j hj hjk => ?_)⟩, by simp [intOf]; omega⟩
        by_cases e : j = k
        · subst e
          rw [HX.out, HM.out]
          exact hle
        · exact hpast.out j hj (by omega)
      · go_wp2_with fail
        go_ret
        have hno : decide (Fits L) = false := decide_eq_false (right_no L k hkl (by rw [HX.out, HM.out]; omega))
        rw [hno]
        exact ⟨rfl, HB.out⟩
    · obtain rfl : k = 15 := by omega
      go_wp2_with fail
      go_ret
      have hyes : decide (Fits L) = true := decide_eq_true ⟨HL.out, fun j hj => hpast.out j hj (by rw [HL.out] at hj; exact hj)⟩
      rw [hyes]
      exact ⟨rfl, HB.out⟩
end Go.Proofs.YtknalgobndbngaaDoor
