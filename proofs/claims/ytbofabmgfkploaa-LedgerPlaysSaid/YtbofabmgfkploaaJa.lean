/-
  The walk of package ledger's judgeAccount.
-/
import Derived.Test.YtbofabmgfkploaaFind
namespace Go.Proofs.Ytbofabmgfkploaa
open Go.RowKit
set_option maxRecDepth 10000

theorem ne_nat {a b : Nat} (h : a ≠ b) : ((a : Int) == (b : Int)) = false := beq_eq_false_iff_ne.2 (by omega)
theorem eq_nat {a b : Nat} (h : a = b) : ((a : Int) == (b : Int)) = true := beq_iff_eq.2 (by omega)
section
variable (p : Nat) (va vt : Value) (S : Lg) (id : Nat) (fl : Int) (db cr : Nat) (w : World) (h : HasG w 63 p va vt S)

theorem ja_1 (h0 : id = 0) : S.ja ⟨id, fl, db, cr⟩ = 1 := by unfold Lg.ja; rw [if_pos h0]
theorem ja_2 (h0 : id ≠ 0) (h1 : S.fa id < S.A.length) : S.ja ⟨id, fl, db, cr⟩ = 2 := by unfold Lg.ja; rw [if_neg h0, if_pos h1]
theorem ja_3 (h0 : id ≠ 0) (h1 : ¬ S.fa id < S.A.length) (h2 : 1 < fl) : S.ja ⟨id, fl, db, cr⟩ = 3 := by unfold Lg.ja; rw [if_neg h0, if_neg h1, if_pos h2]
theorem ja_10 (h0 : id ≠ 0) (h1 : ¬ S.fa id < S.A.length) (h2 : ¬ 1 < fl) (h3 : S.A.length = 8) : S.ja ⟨id, fl, db, cr⟩ = 10 := by unfold Lg.ja; rw [if_neg h0, if_neg h1, if_neg h2, if_pos h3]
theorem ja_0 (h0 : id ≠ 0) (h1 : ¬ S.fa id < S.A.length) (h2 : ¬ 1 < fl) (h3 : S.A.length ≠ 8) : S.ja ⟨id, fl, db, cr⟩ = 0 := by unfold Lg.ja; rw [if_neg h0, if_neg h1, if_neg h2, if_neg h3]

set_option maxHeartbeats 400000 in
theorem judgea_1 : Calls Try.prog 68 #[.pointer (some ⟨p, 0, none⟩), .agg #[.int .u64 ((0 : Nat) : Int), .int .i64 fl, .int .u64 (db : Int), .int .u64 (cr : Int)]] w (VE w (.int .i64 ((1 : Nat) : Int))) := by
  go_enter Try.func68, Try.ntmps68
  go_wp2_with fail
  go_ret
  exact ⟨rfl, (Below.refl _ _).alloc (Nat.le_refl _) _⟩
include h in
set_option maxHeartbeats 400000 in
theorem judgea_2 (h0 : id ≠ 0) (h1 : S.fa id < S.A.length) : Calls Try.prog 68 #[.pointer (some ⟨p, 0, none⟩), .agg #[.int .u64 (id : Int), .int .i64 fl, .int .u64 (db : Int), .int .u64 (cr : Int)]] w (VE w (.int .i64 ((2 : Nat) : Int))) := by
  obtain ⟨g, c, -, -, hg⟩ := own_some h.accs (by omega : 0 < S.A.length)
  have HF := hid (fun W (hW : Below w.heap.size w W) => account_yes p g (S.fa id) va vt S id W (h.below hW) hg rfl h1)
  have hz : ((id : Int) == 0) = false := ne_nat h0
  clear h h0 h1 hg
  generalize S.fa id = k at *
  go_enter Try.func68, Try.ntmps68
  go_wp2_with (go_at_call 73; refine (HF.out _ ((Below.refl _ _).alloc (Nat.le_refl _) _)).mono ?_; rintro e w2 ⟨rfl, hb2⟩)
  go_ret
  exact ⟨rfl, ((Below.refl _ _).alloc (Nat.le_refl _) _).trans (hb2.mono (by simp))⟩
include h in
set_option maxHeartbeats 400000 in
theorem judgea_3 (h0 : id ≠ 0) (h1 : ¬ S.fa id < S.A.length) (h2 : 1 < fl) : Calls Try.prog 68 #[.pointer (some ⟨p, 0, none⟩), .agg #[.int .u64 (id : Int), .int .i64 fl, .int .u64 (db : Int), .int .u64 (cr : Int)]] w (VE w (.int .i64 ((3 : Nat) : Int))) := by
  have HF := hid (fun W (hW : Below w.heap.size w W) => account_no p va vt S id W (h.below hW) h1)
  have hz : ((id : Int) == 0) = false := ne_nat h0
  have HRW := hid (show Row (w.alloc (.cells #[.int .u64 (id : Int), .int .i64 fl, .int .u64 (db : Int), .int .u64 (cr : Int)] 45)) w.heap.size 45 [.int .u64 (id : Int), .int .i64 fl, .int .u64 (db : Int), .int .u64 (cr : Int)] from Row.new _ _ _)
  clear h h0 h1
  go_enter Try.func68, Try.ntmps68
  go_wp2_with (go_at_call 73; refine (HF.out _ ((Below.refl _ _).alloc (Nat.le_refl _) _)).mono ?_; rintro e w2 ⟨rfl, hb2⟩; have hc1 := (HRW.out.below hb2 (by simp)).at_ 1 _ rfl)
  go_ret
  exact ⟨rfl, ((Below.refl _ _).alloc (Nat.le_refl _) _).trans (hb2.mono (by simp))⟩
include h in
set_option maxHeartbeats 400000 in
theorem judgea_4 (h0 : id ≠ 0) (h1 : ¬ S.fa id < S.A.length) (h2 : ¬ 1 < fl) (r : Nat) (hr : r = if S.A.length = 8 then 10 else 0) : Calls Try.prog 68 #[.pointer (some ⟨p, 0, none⟩), .agg #[.int .u64 (id : Int), .int .i64 fl, .int .u64 (db : Int), .int .u64 (cr : Int)]] w (VE w (.int .i64 (r : Int))) := by
  have HF := hid (fun W (hW : Below w.heap.size w W) => account_no p va vt S id W (h.below hW) h1)
  have hz : ((id : Int) == 0) = false := ne_nat h0
  have HRW := hid (show Row (w.alloc (.cells #[.int .u64 (id : Int), .int .i64 fl, .int .u64 (db : Int), .int .u64 (cr : Int)] 45)) w.heap.size 45 [.int .u64 (id : Int), .int .i64 fl, .int .u64 (db : Int), .int .u64 (cr : Int)] from Row.new _ _ _)
  obtain ⟨A, c, e, hnc, -⟩ := h.va_shape
  have HB := hid (fun W (hW : Below w.heap.size w W) => (h.below hW).c0)
  rw [e] at HB
  have hw8 := h.wf.la
  generalize S.A.length = n at *
  clear h h0 h1 e
  by_cases h8 : n = 8
  · subst h8
    rw [if_pos rfl] at hr
    subst hr
    go_enter Try.func68, Try.ntmps68
    go_wp2_with (go_at_call 73; refine (HF.out _ ((Below.refl _ _).alloc (Nat.le_refl _) _)).mono ?_; rintro e w2 ⟨rfl, hb2⟩; have hc1 := (HRW.out.below hb2 (by simp)).at_ 1 _ rfl; have hcp := HB.out w2 (((Below.refl _ _).alloc (Nat.le_refl _) _).trans (hb2.mono (by simp))))
    go_ret
    exact ⟨rfl, ((Below.refl _ _).alloc (Nat.le_refl _) _).trans (hb2.mono (by simp))⟩
  · rw [if_neg h8] at hr
    subst hr
    have hq : ((n : Int) == 8) = false := ne_nat h8
    go_enter Try.func68, Try.ntmps68
    go_wp2_with (go_at_call 73; refine (HF.out _ ((Below.refl _ _).alloc (Nat.le_refl _) _)).mono ?_; rintro e w2 ⟨rfl, hb2⟩; have hc1 := (HRW.out.below hb2 (by simp)).at_ 1 _ rfl; have hcp := HB.out w2 (((Below.refl _ _).alloc (Nat.le_refl _) _).trans (hb2.mono (by simp))))
    go_ret
    exact ⟨rfl, ((Below.refl _ _).alloc (Nat.le_refl _) _).trans (hb2.mono (by simp))⟩
end
theorem judgea_any (p : Nat) (va vt : Value) (S : Lg) (x : Ac) (w : World) (h : HasG w 63 p va vt S) : Calls Try.prog 68 #[.pointer (some ⟨p, 0, none⟩), .agg x.cells.toArray] w (VE w (.int .i64 (S.ja x : Int))) := by
  obtain ⟨id, fl, db, cr⟩ := x
  by_cases h0 : id = 0
  · rw [ja_1 S id fl db cr h0]
    subst h0
    exact judgea_1 p fl db cr w
  by_cases h1 : S.fa id < S.A.length
  · rw [ja_2 S id fl db cr h0 h1]
    exact judgea_2 p va vt S id fl db cr w h h0 h1
  by_cases h2 : 1 < fl
  · rw [ja_3 S id fl db cr h0 h1 h2]
    exact judgea_3 p va vt S id fl db cr w h h0 h1 h2
  by_cases h3 : S.A.length = 8
  · rw [ja_10 S id fl db cr h0 h1 h2 h3]
    exact judgea_4 p va vt S id fl db cr w h h0 h1 h2 10 (by rw [if_pos h3])
  · rw [ja_0 S id fl db cr h0 h1 h2 h3]
    exact judgea_4 p va vt S id fl db cr w h h0 h1 h2 0 (by rw [if_neg h3])
end Go.Proofs.Ytbofabmgfkploaa
