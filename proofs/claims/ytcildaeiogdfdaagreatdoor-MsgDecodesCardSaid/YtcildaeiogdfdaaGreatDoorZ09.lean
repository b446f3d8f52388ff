/-
  The walk of the document's Pack.
-/
import Derived.Test.YtcildaeiogdfdaaGreatDoorZ07
namespace Go.Proofs.YtcildaeiogdfdaaGreatDoor
open Go.RowKit
set_option maxRecDepth 10000

theorem rput_fit (A : Option Addr) (bs : List UInt8) (c n s B : Nat) (W : World) (hr : Rd W B A (bvs bs)) (hs : 1 ≤ s ∧ s ≤ 8) (hn : n < 2 ^ (8 * s)) (hB : B ≤ W.heap.size) (hl : bs.length ≤ 140737488351232) :
    Calls Tryz.prog 59 #[.slice A bs.length c, .int .u64 (n : Int), .int .i64 (s : Int)] W
    fun e w' => ∃ A c, e = .returned (.slice A (bs.length + s) c) ∧ w'.ownsRow W.heap.size 5 1 (.slice A (bs.length + s) c) (bs.length + s) (bvs (bs ++ le n s)) ∧ Below W.heap.size W w' := by
  have hn64 : n < 18446744073709551616 := Nat.lt_of_lt_of_le hn (by
    have : 2 ^ (8 * s) ≤ 2 ^ 64 := Nat.pow_le_pow_right (by omega) (by omega)
    omega)
  have h := fun W' hr' hB' => rput_any A bs bs.length c n B s W' hr' rfl hB' hl (hid hn64)
  have e : putS bs n s = (bs ++ le n s, 0) := by
    unfold putS
    rw [if_pos ⟨by omega, by omega, Nat.div_eq_of_lt (by simpa using hn)⟩]
    simp
  rw [e] at h
  have H := hid (fun W' hr' hB' => (h W' hr' hB').mono fun e w' hh => BE.len9 hh (n := bs.length + s) (by simp [le_len]))
  clear h e hn64 hn hl
  have HR := hid hr
  clear hr
  go_enter Tryz.func59, Tryz.ntmps59
  go_wp2_with (go_at_call 88; refine (H.out _ HR.out hB).mono ?_; rintro e w1 ⟨A1, c1, rfl, ho, hb⟩)
  go_ret
  exact ⟨A1, c1, rfl, ho, hb⟩
theorem rsum_str (s : ByteArray) (h : s.size ≤ 1000000) (W : World) : Calls Tryz.prog 60 #[.string s] W fun e w' => e = .returned (.int .u32 ((addS 0#32 (sb s)).toNat : Int)) ∧ W = w' := rsum_calls s W (by omega)
theorem rsum_of9 (b : List UInt8) (hb : b.length ≤ 1000000) (W : World) : Calls Tryz.prog 60 #[.string ⟨b.toArray⟩] W fun e w' => e = .returned (.int .u32 ((addS 0#32 b).toNat : Int)) ∧ W = w' := by
  have h := rsum_calls ⟨b.toArray⟩ W (by rw [← sb_len, sb_mk]; omega)
  rw [sb_mk] at h
  exact h
theorem rput_sum0 (A : Option Addr) (x : BitVec 32) (W : World) : Calls Tryz.prog 59 #[.slice A 0 0, .int .u64 (x.toNat : Int), .int .i64 4] W
    fun e w' => ∃ A c, e = .returned (.slice A 4 c) ∧ Rd w' w'.heap.size A (bvs (le x.toNat 4)) ∧ Below W.heap.size W w' := by
  have h := rput_fit A [] 0 x.toNat 4 0 W Rd.nil (by omega) x.isLt (by omega) (by simp)
  refine h.mono fun e w' ⟨A, c, e1, ho, hb⟩ => ⟨A, c, e1, ?_, hb⟩
  obtain ⟨A', c', e2, _, _, hrd⟩ := own_shape ho
  cases e2
  exact hrd
theorem rput_step (l : List Nat) (hfit : Fits l) (k p p' s : Nat) (hk : k < 15) (hp : off k = p) (hp' : off (k + 1) = p') (hs : sz k = s) (v : Int) (hv : ((l.getD k 0 : Nat) : Int) = v) (A : Option Addr) (c : Nat) (W : World) (hr : Rd W W.heap.size A (bvs (fl l k))) :
    Calls Tryz.prog 59 #[.slice A p c, .int .u64 v, .int .i64 (s : Int)] W
    fun e w' => ∃ A c, e = .returned (.slice A p' c) ∧ w'.ownsRow W.heap.size 5 1 (.slice A p' c) p' (bvs (fl l (k + 1))) ∧ Below W.heap.size W w' := by
  have hkl : k < l.length := by rw [hfit.1]; exact hk
  have hlk : l.getD k 0 = l[k] := by simp [hkl]
  subst hp hp' hs hv
  have h := rput_fit A (fl l k) c (l.getD k 0) (sz k) W.heap.size W hr (sz_lo k hk) (by rw [hlk]; exact fits_lt hfit k hkl) (Nat.le_refl _) (by rw [fl_len]; have := off_le k (by omega); omega)
  rw [fl_len] at h
  exact h
theorem own_rd {w : World} {B : Nat} {e : TypeId} {A : Option Addr} {c n : Nat} {xs : List Value} (h : w.ownsRow B e 1 (.slice A n c) n xs) : Rd w w.heap.size A xs := by
  obtain ⟨A', c', e2, _, _, hrd⟩ := own_shape h
  cases e2
  exact hrd
set_option maxHeartbeats 4000000 in
theorem rpack_ok (h : Hd) (body : ByteArray) (w : World) (hyes : Fits h.nums) (hyes2 : rightS h = true) (hroom : body.size ≤ 3968) : Calls Tryz.prog 33 #[h.val, .string body] w (SN w (headB (full h (sb body)) ++ sb body, 0)) := by
  obtain ⟨i0, hi, hz0, hz1, hz2⟩ := info_parts u8info
  have HR : Hid (∀ W, Calls Tryz.prog 58 #[h.val] W (VE W (.bool true))) := hid fun W => by
    have := rright_any h W
    rwa [hyes2] at this
  have hsl := sb_len body
  have hff := full_fits h (sb body) hyes (by omega)
  have HS := hid (fun W => rsum_str body (by omega) W)
  have hroomI : ¬ (3968 < (body.size : Int)) := by omega
  have hR := restS_len (full h (sb body))
  have hrest : bvs (fl (full h (sb body)) 15) ++ List.replicate 40 (.int .u8 0) = bvs (restS (full h (sb body))) := by rw [bvs_zero, ← bvs_app, restS]
  have HS2 := hid (fun W => rsum_of9 (restS (full h (sb body))) (by omega) W)
  have HP0 := hid (fun A W => rput_sum0 A (addS 0#32 (restS (full h (sb body)))) W)
  have hfin : headB (full h (sb body)) = le (addS 0#32 (restS (full h (sb body)))).toNat 4 ++ restS (full h (sb body)) := rfl
  clear hyes hyes2
  obtain ⟨kind, frm, oper, view, opn, commit, client, session, request, a, b, parent⟩ := h
  have HR2 : Hid (∀ W : World, Calls Tryz.prog 58 #[.agg #[.int .i64 kind, .int .i64 frm, .int .i64 oper, .int .i64 view, .int .i64 opn, .int .i64 commit, .int .i64 client, .int .i64 session, .int .i64 request, .int .i64 a, .int .i64 b, .int .u64 (parent : Int)]] W (VE W (.bool true))) := hid HR.out
  show Calls Tryz.prog 33 #[.agg #[.int .i64 kind, .int .i64 frm, .int .i64 oper, .int .i64 view, .int .i64 opn, .int .i64 commit, .int .i64 client, .int .i64 session, .int .i64 request, .int .i64 a, .int .i64 b, .int .u64 (parent : Int)], .string body] w _
  have hLdef : full ⟨kind, frm, oper, view, opn, commit, client, session, request, a, b, parent⟩ (sb body) = [(addS 0#32 (sb body)).toNat, un kind, un frm, un oper, 0, body.size, parent, un view, un opn, un commit, un client, un session, un request, un a, un b] := by
    rw [full, hsl]
    rfl
  generalize full ⟨kind, frm, oper, view, opn, commit, client, session, request, a, b, parent⟩ (sb body) = L at *
  generalize addS 0#32 (sb body) = x at *
  have hx : x.toNat < 4294967296 := x.isLt
  have hnb : ((body.size : Nat) : Int) = (body.size : Int) := rfl
  have P0 : Hid (∀ A c W, Rd W W.heap.size A (bvs (fl L 0)) → Calls Tryz.prog 59 #[.slice A 0 c, .int .u64 ((x.toNat : Int)), .int .i64 4] W
      fun e w' => ∃ A c, e = .returned (.slice A 4 c) ∧ w'.ownsRow W.heap.size 5 1 (.slice A 4 c) 4 (bvs (fl L 1)) ∧ Below W.heap.size W w') := hid fun A c W hr => rput_step L hff 0 0 4 4 (by omega) rfl rfl rfl _ (by rw [hLdef]; rfl) A c W hr
  have P1 : Hid (∀ A c W, Rd W W.heap.size A (bvs (fl L 1)) → Calls Tryz.prog 59 #[.slice A 4 c, .int .u64 ((IntKind.u64.wrap kind)), .int .i64 1] W
      fun e w' => ∃ A c, e = .returned (.slice A 5 c) ∧ w'.ownsRow W.heap.size 5 1 (.slice A 5 c) 5 (bvs (fl L 2)) ∧ Below W.heap.size W w') := hid fun A c W hr => rput_step L hff 1 4 5 1 (by omega) rfl rfl rfl _ (by rw [hLdef]; exact (un_wrap _).symm) A c W hr
  have P2 : Hid (∀ A c W, Rd W W.heap.size A (bvs (fl L 2)) → Calls Tryz.prog 59 #[.slice A 5 c, .int .u64 ((IntKind.u64.wrap frm)), .int .i64 1] W
      fun e w' => ∃ A c, e = .returned (.slice A 6 c) ∧ w'.ownsRow W.heap.size 5 1 (.slice A 6 c) 6 (bvs (fl L 3)) ∧ Below W.heap.size W w') := hid fun A c W hr => rput_step L hff 2 5 6 1 (by omega) rfl rfl rfl _ (by rw [hLdef]; exact (un_wrap _).symm) A c W hr
  have P3 : Hid (∀ A c W, Rd W W.heap.size A (bvs (fl L 3)) → Calls Tryz.prog 59 #[.slice A 6 c, .int .u64 ((IntKind.u64.wrap oper)), .int .i64 1] W
      fun e w' => ∃ A c, e = .returned (.slice A 7 c) ∧ w'.ownsRow W.heap.size 5 1 (.slice A 7 c) 7 (bvs (fl L 4)) ∧ Below W.heap.size W w') := hid fun A c W hr => rput_step L hff 3 6 7 1 (by omega) rfl rfl rfl _ (by rw [hLdef]; exact (un_wrap _).symm) A c W hr
  have P4 : Hid (∀ A c W, Rd W W.heap.size A (bvs (fl L 4)) → Calls Tryz.prog 59 #[.slice A 7 c, .int .u64 (0), .int .i64 1] W
      fun e w' => ∃ A c, e = .returned (.slice A 8 c) ∧ w'.ownsRow W.heap.size 5 1 (.slice A 8 c) 8 (bvs (fl L 5)) ∧ Below W.heap.size W w') := hid fun A c W hr => rput_step L hff 4 7 8 1 (by omega) rfl rfl rfl _ (by rw [hLdef]; rfl) A c W hr
  have P5 : Hid (∀ A c W, Rd W W.heap.size A (bvs (fl L 5)) → Calls Tryz.prog 59 #[.slice A 8 c, .int .u64 (((body.size : Nat) : Int)), .int .i64 4] W
      fun e w' => ∃ A c, e = .returned (.slice A 12 c) ∧ w'.ownsRow W.heap.size 5 1 (.slice A 12 c) 12 (bvs (fl L 6)) ∧ Below W.heap.size W w') := hid fun A c W hr => rput_step L hff 5 8 12 4 (by omega) rfl rfl rfl _ (by rw [hLdef]; rfl) A c W hr
  have P6 : Hid (∀ A c W, Rd W W.heap.size A (bvs (fl L 6)) → Calls Tryz.prog 59 #[.slice A 12 c, .int .u64 ((parent : Int)), .int .i64 8] W
      fun e w' => ∃ A c, e = .returned (.slice A 20 c) ∧ w'.ownsRow W.heap.size 5 1 (.slice A 20 c) 20 (bvs (fl L 7)) ∧ Below W.heap.size W w') := hid fun A c W hr => rput_step L hff 6 12 20 8 (by omega) rfl rfl rfl _ (by rw [hLdef]; rfl) A c W hr
  have P7 : Hid (∀ A c W, Rd W W.heap.size A (bvs (fl L 7)) → Calls Tryz.prog 59 #[.slice A 20 c, .int .u64 ((IntKind.u64.wrap view)), .int .i64 8] W
      fun e w' => ∃ A c, e = .returned (.slice A 28 c) ∧ w'.ownsRow W.heap.size 5 1 (.slice A 28 c) 28 (bvs (fl L 8)) ∧ Below W.heap.size W w') := hid fun A c W hr => rput_step L hff 7 20 28 8 (by omega) rfl rfl rfl _ (by rw [hLdef]; exact (un_wrap _).symm) A c W hr
  have P8 : Hid (∀ A c W, Rd W W.heap.size A (bvs (fl L 8)) → Calls Tryz.prog 59 #[.slice A 28 c, .int .u64 ((IntKind.u64.wrap opn)), .int .i64 8] W
      fun e w' => ∃ A c, e = .returned (.slice A 36 c) ∧ w'.ownsRow W.heap.size 5 1 (.slice A 36 c) 36 (bvs (fl L 9)) ∧ Below W.heap.size W w') := hid fun A c W hr => rput_step L hff 8 28 36 8 (by omega) rfl rfl rfl _ (by rw [hLdef]; exact (un_wrap _).symm) A c W hr
  have P9 : Hid (∀ A c W, Rd W W.heap.size A (bvs (fl L 9)) → Calls Tryz.prog 59 #[.slice A 36 c, .int .u64 ((IntKind.u64.wrap commit)), .int .i64 8] W
      fun e w' => ∃ A c, e = .returned (.slice A 44 c) ∧ w'.ownsRow W.heap.size 5 1 (.slice A 44 c) 44 (bvs (fl L 10)) ∧ Below W.heap.size W w') := hid fun A c W hr => rput_step L hff 9 36 44 8 (by omega) rfl rfl rfl _ (by rw [hLdef]; exact (un_wrap _).symm) A c W hr
  have P10 : Hid (∀ A c W, Rd W W.heap.size A (bvs (fl L 10)) → Calls Tryz.prog 59 #[.slice A 44 c, .int .u64 ((IntKind.u64.wrap client)), .int .i64 8] W
      fun e w' => ∃ A c, e = .returned (.slice A 52 c) ∧ w'.ownsRow W.heap.size 5 1 (.slice A 52 c) 52 (bvs (fl L 11)) ∧ Below W.heap.size W w') := hid fun A c W hr => rput_step L hff 10 44 52 8 (by omega) rfl rfl rfl _ (by rw [hLdef]; exact (un_wrap _).symm) A c W hr
  have P11 : Hid (∀ A c W, Rd W W.heap.size A (bvs (fl L 11)) → Calls Tryz.prog 59 #[.slice A 52 c, .int .u64 ((IntKind.u64.wrap session)), .int .i64 8] W
      fun e w' => ∃ A c, e = .returned (.slice A 60 c) ∧ w'.ownsRow W.heap.size 5 1 (.slice A 60 c) 60 (bvs (fl L 12)) ∧ Below W.heap.size W w') := hid fun A c W hr => rput_step L hff 11 52 60 8 (by omega) rfl rfl rfl _ (by rw [hLdef]; exact (un_wrap _).symm) A c W hr
  have P12 : Hid (∀ A c W, Rd W W.heap.size A (bvs (fl L 12)) → Calls Tryz.prog 59 #[.slice A 60 c, .int .u64 ((IntKind.u64.wrap request)), .int .i64 8] W
      fun e w' => ∃ A c, e = .returned (.slice A 68 c) ∧ w'.ownsRow W.heap.size 5 1 (.slice A 68 c) 68 (bvs (fl L 13)) ∧ Below W.heap.size W w') := hid fun A c W hr => rput_step L hff 12 60 68 8 (by omega) rfl rfl rfl _ (by rw [hLdef]; exact (un_wrap _).symm) A c W hr
  have P13 : Hid (∀ A c W, Rd W W.heap.size A (bvs (fl L 13)) → Calls Tryz.prog 59 #[.slice A 68 c, .int .u64 ((IntKind.u64.wrap a)), .int .i64 8] W
      fun e w' => ∃ A c, e = .returned (.slice A 76 c) ∧ w'.ownsRow W.heap.size 5 1 (.slice A 76 c) 76 (bvs (fl L 14)) ∧ Below W.heap.size W w') := hid fun A c W hr => rput_step L hff 13 68 76 8 (by omega) rfl rfl rfl _ (by rw [hLdef]; exact (un_wrap _).symm) A c W hr
  have P14 : Hid (∀ A c W, Rd W W.heap.size A (bvs (fl L 14)) → Calls Tryz.prog 59 #[.slice A 76 c, .int .u64 ((IntKind.u64.wrap b)), .int .i64 8] W
      fun e w' => ∃ A c, e = .returned (.slice A 84 c) ∧ w'.ownsRow W.heap.size 5 1 (.slice A 84 c) 84 (bvs (fl L 15)) ∧ Below W.heap.size W w') := hid fun A c W hr => rput_step L hff 14 76 84 8 (by omega) rfl rfl rfl _ (by rw [hLdef]; exact (un_wrap _).symm) A c W hr
  have h0 : fl L 0 = [] := rfl
  have H0 := hid h0
  have HRest := hid hrest
  have HRL := hid hR
  have HFN := hid hfin
  have HL4 := hid (fun x : BitVec 32 => le_len 4 x.toNat)
  have hw0 : w.heap.size + 1 ≤ (w.alloc (.cells #[.int .i64 kind, .int .i64 frm, .int .i64 oper, .int .i64 view, .int .i64 opn, .int .i64 commit, .int .i64 client, .int .i64 session, .int .i64 request, .int .i64 a, .int .i64 b, .int .u64 (parent : Int)] 42)).heap.size := by simp
  have HW0 := hid hw0
  have hB0 : Below w.heap.size w (w.alloc (.cells #[.int .i64 kind, .int .i64 frm, .int .i64 oper, .int .i64 view, .int .i64 opn, .int .i64 commit, .int .i64 client, .int .i64 session, .int .i64 request, .int .i64 a, .int .i64 b, .int .u64 (parent : Int)] 42)) := (Below.refl _ _).alloc (Nat.le_refl _) _
  have HB0 := hid hB0
  have HC : Hid (∀ W, Below (w.heap.size + 1) (w.alloc (.cells #[.int .i64 kind, .int .i64 frm, .int .i64 oper, .int .i64 view, .int .i64 opn, .int .i64 commit, .int .i64 client, .int .i64 session, .int .i64 request, .int .i64 a, .int .i64 b, .int .u64 (parent : Int)] 42)) W → ∀ (i : Nat) (u : Value), (#[.int .i64 kind, .int .i64 frm, .int .i64 oper, .int .i64 view, .int .i64 opn, .int .i64 commit, .int .i64 client, .int .i64 session, .int .i64 request, .int .i64 a, .int .i64 b, .int .u64 (parent : Int)] : Array Value)[i]? = some u → W.cell? ⟨w.heap.size, i, none⟩ = some u) := hid fun W hb i u hu => by
    have hr := (Row.new w 42 #[.int .i64 kind, .int .i64 frm, .int .i64 oper, .int .i64 view, .int .i64 opn, .int .i64 commit, .int .i64 client, .int .i64 session, .int .i64 request, .int .i64 a, .int .i64 b, .int .u64 (parent : Int)]).below hb (by omega)
    rw [hr.cell, Array.getElem?_toList]
    exact hu
  clear hLdef hff HR hfin hrest hR h0 hsl hw0 hB0
  go_enter Tryz.func33, Tryz.ntmps33
  go_wp2_with (first
    | (go_at_call 58; refine (HR2.out _).mono ?_; rintro e w1 ⟨rfl, hbR⟩; have hbb := hbR.mono HW0.out; clear hbR)
    | (go_at_call 60; refine (HS.out _).mono ?_; rintro e w' ⟨rfl, rfl⟩)
    | (go_at_call_of 59 (Value.int .u64 (x.toNat : Int)); have hbb := hbb.alloc (Nat.le_trans HW0.out hbb.size) (.cells #[] 5); refine (P0.out _ _ _ (by rw [H0.out]; exact Rd.nil)).mono ?_; rintro e w2 ⟨A1, c1, rfl, ho1, hb1⟩; replace hbb := hbb.trans (hb1.mono (Nat.le_trans HW0.out hbb.size)); have q1 := HC.out _ hbb 0 (.int .i64 kind) rfl)
    | (go_at_call_of 59 (Value.int .u64 (IntKind.u64.wrap kind)); refine (P1.out _ _ _ (own_rd ho1)).mono ?_; rintro e w3 ⟨A2, c2, rfl, ho2, hb2⟩; replace hbb := hbb.trans (hb2.mono (Nat.le_trans HW0.out hbb.size)); have q2 := HC.out _ hbb 1 (.int .i64 frm) rfl)
    | (go_at_call_of 59 (Value.int .u64 (IntKind.u64.wrap frm)); refine (P2.out _ _ _ (own_rd ho2)).mono ?_; rintro e w4 ⟨A3, c3, rfl, ho3, hb3⟩; replace hbb := hbb.trans (hb3.mono (Nat.le_trans HW0.out hbb.size)); have q3 := HC.out _ hbb 2 (.int .i64 oper) rfl)
    | (go_at_call_of 59 (Value.int .u64 (IntKind.u64.wrap oper)); refine (P3.out _ _ _ (own_rd ho3)).mono ?_; rintro e w5 ⟨A4, c4, rfl, ho4, hb4⟩; replace hbb := hbb.trans (hb4.mono (Nat.le_trans HW0.out hbb.size)))
    | (go_at_call_of 59 (Value.int .u64 0); refine (P4.out _ _ _ (own_rd ho4)).mono ?_; rintro e w6 ⟨A5, c5, rfl, ho5, hb5⟩; replace hbb := hbb.trans (hb5.mono (Nat.le_trans HW0.out hbb.size)))
    | (go_at_call_of 59 (Value.int .u64 ((body.size : Nat) : Int)); refine (P5.out _ _ _ (own_rd ho5)).mono ?_; rintro e w7 ⟨A6, c6, rfl, ho6, hb6⟩; replace hbb := hbb.trans (hb6.mono (Nat.le_trans HW0.out hbb.size)); have q6 := HC.out _ hbb 11 (.int .u64 (parent : Int)) rfl)
    | (go_at_call_of 59 (Value.int .u64 (parent : Int)); refine (P6.out _ _ _ (own_rd ho6)).mono ?_; rintro e w8 ⟨A7, c7, rfl, ho7, hb7⟩; replace hbb := hbb.trans (hb7.mono (Nat.le_trans HW0.out hbb.size)); have q7 := HC.out _ hbb 3 (.int .i64 view) rfl)
    | (go_at_call_of 59 (Value.int .u64 (IntKind.u64.wrap view)); refine (P7.out _ _ _ (own_rd ho7)).mono ?_; rintro e w9 ⟨A8, c8, rfl, ho8, hb8⟩; replace hbb := hbb.trans (hb8.mono (Nat.le_trans HW0.out hbb.size)); have q8 := HC.out _ hbb 4 (.int .i64 opn) rfl)
    | (go_at_call_of 59 (Value.int .u64 (IntKind.u64.wrap opn)); refine (P8.out _ _ _ (own_rd ho8)).mono ?_; rintro e w10 ⟨A9, c9, rfl, ho9, hb9⟩; replace hbb := hbb.trans (hb9.mono (Nat.le_trans HW0.out hbb.size)); have q9 := HC.out _ hbb 5 (.int .i64 commit) rfl)
    | (go_at_call_of 59 (Value.int .u64 (IntKind.u64.wrap commit)); refine (P9.out _ _ _ (own_rd ho9)).mono ?_; rintro e w11 ⟨A10, c10, rfl, ho10, hb10⟩; replace hbb := hbb.trans (hb10.mono (Nat.le_trans HW0.out hbb.size)); have q10 := HC.out _ hbb 6 (.int .i64 client) rfl)
    | (go_at_call_of 59 (Value.int .u64 (IntKind.u64.wrap client)); refine (P10.out _ _ _ (own_rd ho10)).mono ?_; rintro e w12 ⟨A11, c11, rfl, ho11, hb11⟩; replace hbb := hbb.trans (hb11.mono (Nat.le_trans HW0.out hbb.size)); have q11 := HC.out _ hbb 7 (.int .i64 session) rfl)
    | (go_at_call_of 59 (Value.int .u64 (IntKind.u64.wrap session)); refine (P11.out _ _ _ (own_rd ho11)).mono ?_; rintro e w13 ⟨A12, c12, rfl, ho12, hb12⟩; replace hbb := hbb.trans (hb12.mono (Nat.le_trans HW0.out hbb.size)); have q12 := HC.out _ hbb 8 (.int .i64 request) rfl)
    | (go_at_call_of 59 (Value.int .u64 (IntKind.u64.wrap request)); refine (P12.out _ _ _ (own_rd ho12)).mono ?_; rintro e w14 ⟨A13, c13, rfl, ho13, hb13⟩; replace hbb := hbb.trans (hb13.mono (Nat.le_trans HW0.out hbb.size)); have q13 := HC.out _ hbb 9 (.int .i64 a) rfl)
    | (go_at_call_of 59 (Value.int .u64 (IntKind.u64.wrap a)); refine (P13.out _ _ _ (own_rd ho13)).mono ?_; rintro e w15 ⟨A14, c14, rfl, ho14, hb14⟩; replace hbb := hbb.trans (hb14.mono (Nat.le_trans HW0.out hbb.size)); have q14 := HC.out _ hbb 10 (.int .i64 b) rfl)
    | (go_at_call_of 59 (Value.int .u64 (IntKind.u64.wrap b)); have hs15 := Nat.le_trans HW0.out hbb.size; refine (P14.out _ _ _ (own_rd ho14)).mono ?_; rintro e w16 ⟨A15, c15, rfl, ho15, hb15⟩; replace hbb := hbb.trans (hb15.mono (Nat.le_trans HW0.out hbb.size))))
  have hbe : Below w.heap.size w w16 := HB0.out.trans (hbb.mono (by omega))
  have ho : w16.ownsRow w.heap.size 5 1 (.slice A15 84 c15) 84 (bvs (fl L 15 ++ List.replicate 0 0)) := by
    have := own_base (B' := w.heap.size) ho15 (by omega)
    simpa using this
  have HO := hid ho
  have HBe := hid hbe
  clear ho hbe hbb ho15
  go_loopw [6] (fun b wr => ∃ (n k : Nat) (A : Option Addr) (c : Nat), b = .slice A n c ∧ Hid (n = 84 + k) ∧ k ≤ 40 ∧ wr.ownsRow w.heap.size 5 1 (.slice A n c) n (bvs (fl L 15 ++ List.replicate k 0)) ∧ Below w.heap.size w wr) (fun b _ => match b with | .slice _ n _ => 124 - n | _ => 0)
  case atStart => exact ⟨84, 0, A15, c15, rfl, hid rfl, by omega, HO.out, HBe.out⟩
  case round =>
    obtain ⟨n, k, A, c, rfl, hn, hk, hown, hbe⟩ := hrel
    have hsz := hbe.size
    have HOW := hid hown
    have HBR := hid hbe
    by_cases hlt : n < 124
    · have hd : decide ((n : Int) < 124) = true := by simp; omega
      have HE : Hid (bvs (fl L 15 ++ List.replicate k 0) ++ [.int .u8 0] = bvs (fl L 15 ++ List.replicate (k + 1) 0)) := hid (by rw [List.replicate_succ', ← List.append_assoc, bvs_app _ [0]]; rfl)
      clear hown hbe
      go_wp2_with (with_reducible refine wpl_append rfl _ _ 47 rfl w.heap.size 5 i0 _ 1 1 Tryz.underlying47 hi hz0 hz1 hz2 rfl (by omega) (.slice A n c) n _ rfl (HOW.out.alloc _) (wr.heap.size + 1) (some ⟨wr.heap.size, 0, none⟩) 1 1 [.int .u8 0] rfl ?_ ?_ ?_ ?_ ?_ ?_ ?_; intro v5 w5 hown5 hb5 hg5; rw [HE.out] at hown5; obtain ⟨A5, c5, rfl, -, -, -⟩ := own_shape hown5)
      rotate_left
      · refine hid fun _ => ⟨_, _, rfl, by omega, ?_⟩
        intro j u hu
        match j, hu with
        | 0, hu => simp at hu; subst hu; simp
      · exact hid rfl
      · exact hid (by intro u hu; simp at hu; subst hu; rfl)
      · exact hid (le_maxLen (by omega))
      · exact hid (by omega)
      · exact hid (by simp; omega)
      go_roundw
      case rel => exact ⟨n + 1, k + 1, A5, c5, rfl, hid (by rw [hn.out]; omega), by have := hn.out; omega, hown5, (HBR.out.alloc hsz _).trans hb5⟩
      case measure => simp; omega
    · obtain rfl : k = 40 := by have := hn.out; omega
      obtain rfl : n = 124 := hn.out
      have hown2 : wr.ownsRow w.heap.size 5 1 (.slice A 124 c) 124 (bvs (restS L)) := hown
      have hrd2 := own_rd hown2
      generalize restS L = R at *
      generalize addS 0#32 R = y at *
      have hcat : ¬ (9223372036854775807 < (le y.toNat 4).length + R.length) := by rw [le_len, HRL.out]; omega
      have hcat2 : ¬ (9223372036854775807 < (le y.toNat 4).length + R.length + body.size) := by rw [le_len, HRL.out]; omega
      have HL5 := hid (le_len 4 y.toNat)
      clear HOW hown hown2 hbe
      have HRD2 := hid hrd2
      clear hrd2
      go_wp2_with (first
        | (with_reducible refine wpl_str rfl _ 47 9 rfl 5 Tryz.underlying47 Tryz.underlying5 Tryz.underlying9 A 124 c rfl wr.heap.size R ?_ (hid (HRD2.out.below (Below.refl wr.heap.size wr |>.alloc (Nat.le_refl _) _) (Nat.le_refl _))) (hid HRL.out.symm))
        | (go_at_call 60; refine (HS2.out _).mono ?_; rintro e w' ⟨rfl, rfl⟩)
        | (go_at_call 59; refine (HP0.out _ _).mono ?_; rintro e w4 ⟨A4, c4, rfl, hrd4, hb4⟩; have hb5 : Below wr.heap.size wr w4 := ((Below.refl wr.heap.size wr).alloc (Nat.le_refl _) _).trans (hb4.mono (by simp)))
        | (with_reducible refine wpl_str rfl _ 47 9 rfl 5 Tryz.underlying47 Tryz.underlying5 Tryz.underlying9 A4 4 c4 rfl w4.heap.size (le y.toNat 4) ?_ (hid hrd4) (hid HL5.out.symm))
        | (with_reducible refine wpl_str rfl _ 47 9 rfl 5 Tryz.underlying47 Tryz.underlying5 Tryz.underlying9 A 124 c rfl wr.heap.size R ?_ (hid (HRD2.out.below hb5 (Nat.le_refl _))) (hid HRL.out.symm)))
      go_ret2
      refine ⟨by rw [HFN.out, cat_mk, cat_sb]; rfl, HBR.out.trans (hb5.mono hsz)⟩
end Go.Proofs.YtcildaeiogdfdaaGreatDoor
