/-
  The walks of small things of package ledger and of the document's answer: a byte, sums that are too great, what has an id.
-/
import Derived.Test.YtbofabmgfkploaaGk
import Derived.Deep.MidRow
namespace Go.Proofs.Ytbofabmgfkploaa
open Go.RowKit
set_option maxRecDepth 10000

set_option maxHeartbeats 400000 in
theorem onebyte_any (n : Nat) (w : World) (h2 : (n : Int) ≤ 255) : Calls Try.prog 69 #[.int .i64 (n : Int)] w (SE w [UInt8.ofNat n]) := by
  have hr : Rd (w.alloc (.cells #[.int .u8 (n : Int)] 5)) (w.heap.size + 1) (some ⟨w.heap.size, 0, none⟩) (bvs [UInt8.ofNat n]) := by
    have e : bvs [UInt8.ofNat n] = [.int .u8 (n : Int)] := by simp [bvs, bv_ofNat]; omega
    rw [e]
    exact Row.rd (Row.new w 5 #[.int .u8 (n : Int)]) (by omega)
  have HR := hid hr
  clear hr
  go_enter Try.func69, Try.ntmps69
  go_wp2_with (with_reducible refine wpl_str rfl _ 116 9 rfl 5 Try.underlying116 Try.underlying5 Try.underlying9 _ 1 1 rfl (w.heap.size + 1) [UInt8.ofNat n] ?_ (hid HR.out) (hid rfl))
  go_ret
  exact ⟨rfl, (Below.refl _ _).alloc (Nat.le_refl _) _⟩
set_option maxHeartbeats 400000 in
theorem rbyte_any (n : Nat) (w : World) (h2 : (n : Int) ≤ 255) : Calls Try.prog 36 #[.int .i64 (n : Int)] w (SE w [UInt8.ofNat n]) := by
  have hr : Rd (w.alloc (.cells #[.int .u8 (n : Int)] 5)) (w.heap.size + 1) (some ⟨w.heap.size, 0, none⟩) (bvs [UInt8.ofNat n]) := by
    have e : bvs [UInt8.ofNat n] = [.int .u8 (n : Int)] := by simp [bvs, bv_ofNat]; omega
    rw [e]
    exact Row.rd (Row.new w 5 #[.int .u8 (n : Int)]) (by omega)
  have HR := hid hr
  clear hr
  go_enter Try.func36, Try.ntmps36
  go_wp2_with (with_reducible refine wpl_str rfl _ 116 9 rfl 5 Try.underlying116 Try.underlying5 Try.underlying9 _ 1 1 rfl (w.heap.size + 1) [UInt8.ofNat n] ?_ (hid HR.out) (hid rfl))
  go_ret
  exact ⟨rfl, (Below.refl _ _).alloc (Nat.le_refl _) _⟩

theorem u64_wrap_big (a b : Nat) (ha : U64 a) (hb : U64 b) (h : ¬ U64 (a + b)) : IntKind.u64.wrap ((a : Int) + (b : Int)) = ((a + b - 18446744073709551616 : Nat) : Int) := by
  unfold U64 at *
  simp [IntKind.wrap, IntKind.signed, IntKind.bits]
  omega
theorem u64_wrap_small (a b : Nat) (h : U64 (a + b)) : IntKind.u64.wrap ((a : Int) + (b : Int)) = ((a + b : Nat) : Int) := by
  unfold U64 at *
  simp [IntKind.wrap, IntKind.signed, IntKind.bits]
  omega
set_option maxHeartbeats 400000 in
theorem round_any (a b : Nat) (w : World) (ha : U64 a) (hb : U64 b) : Calls Try.prog 93 #[.int .u64 (a : Int), .int .u64 (b : Int)] w fun e w' => e = .returned (.bool (decide (¬ U64 (a + b)))) ∧ w = w' := by
  by_cases h : U64 (a + b)
  · have e1 := u64_wrap_small a b h
    have e2 : decide (((a + b : Nat) : Int) < (a : Int)) = false := decide_eq_false (by omega)
    have e3 : decide (¬ U64 (a + b)) = false := decide_eq_false (fun x => x h)
    rw [e3]
    unfold U64 at *
    go_enter Try.func93, Try.ntmps93
    go_wp2_with fail
    go_ret
    first | exact ⟨rfl, rfl⟩ | (refine ⟨?_, rfl⟩; congr 2; simp; omega)
  · have e1 := u64_wrap_big a b ha hb h
    have e3 : decide (¬ U64 (a + b)) = true := decide_eq_true h
    rw [e3]
    unfold U64 at *
    go_enter Try.func93, Try.ntmps93
    go_wp2_with fail
    go_ret
    first | exact ⟨rfl, rfl⟩ | (refine ⟨?_, rfl⟩; congr 2; simp; omega)
set_option maxHeartbeats 400000 in
theorem over_any (a b : Nat) (w : World) (_ : U64 a) (hb : U64 b) : Calls Try.prog 84 #[.int .u64 (a : Int), .int .u64 (b : Int)] w fun e w' => e = .returned (.bool (decide (¬ U64 (a + b)))) ∧ w = w' := by
  unfold U64 at *
  by_cases h : a + b < 18446744073709551616
  · have e3 : decide (¬ (a + b < 18446744073709551616)) = false := decide_eq_false (fun x => x h)
    rw [e3]
    go_enter Try.func84, Try.ntmps84
    go_wp2_with fail
    go_ret
    first | exact ⟨rfl, rfl⟩ | (refine ⟨?_, rfl⟩; congr 2; simp; omega)
  · have e3 : decide (¬ (a + b < 18446744073709551616)) = true := decide_eq_true h
    rw [e3]
    go_enter Try.func84, Try.ntmps84
    go_wp2_with fail
    go_ret
    first | exact ⟨rfl, rfl⟩ | (refine ⟨?_, rfl⟩; congr 2; simp; omega)

set_option maxHeartbeats 400000 in
theorem isa_yes (x : Ac) (b : Nat) (w : World) (hc : w.cell? ⟨b, 0, none⟩ = some (.int .u64 (Ac.id x : Int))) : Calls Try.prog 92 #[.agg (Ac.cells x).toArray, .pointer (some ⟨b, 0, none⟩)] w (VE w (.bool true)) := by
  have hb := World.block_lt_of_cell? w _ hc
  obtain ⟨id, fl, db, cr⟩ := x
  show Calls Try.prog 92 #[.agg #[.int .u64 (id : Int), .int .i64 fl, .int .u64 (db : Int), .int .u64 (cr : Int)], .pointer (some ⟨b, 0, none⟩)] w _
  go_enter Try.func92, Try.ntmps92
  go_wp2_with fail
  go_ret
  exact ⟨rfl, (Below.refl _ _).alloc (Nat.le_refl _) _⟩
set_option maxHeartbeats 400000 in
theorem isa_no (x : Ac) (id' : Nat) (b : Nat) (w : World) (hc : w.cell? ⟨b, 0, none⟩ = some (.int .u64 (id' : Int))) (hne : Ac.id x ≠ id') : Calls Try.prog 92 #[.agg (Ac.cells x).toArray, .pointer (some ⟨b, 0, none⟩)] w (VE w (.bool false)) := by
  have hb := World.block_lt_of_cell? w _ hc
  obtain ⟨id, fl, db, cr⟩ := x
  have h1 : ((id : Int) == (id' : Int)) = false := beq_eq_false_iff_ne.2 (by intro e; apply hne; show id = id'; omega)
  clear hne
  show Calls Try.prog 92 #[.agg #[.int .u64 (id : Int), .int .i64 fl, .int .u64 (db : Int), .int .u64 (cr : Int)], .pointer (some ⟨b, 0, none⟩)] w _
  go_enter Try.func92, Try.ntmps92
  go_wp2_with fail
  go_ret
  exact ⟨rfl, (Below.refl _ _).alloc (Nat.le_refl _) _⟩

def idxa (l : List Ac) (id : Nat) : Int := if at_ Ac.id id l < l.length then (at_ Ac.id id l : Int) else -1
set_option maxHeartbeats 1000000 in
theorem indexa_any (A : Option Addr) (l : List Ac) (n c B b id : Nat) (w : World) (hr : Rd w B A (rows Ac.cells l)) (hn : n = l.length) (hB : B ≤ w.heap.size) (hc : w.cell? ⟨b, 0, none⟩ = some (.int .u64 (id : Int))) (hnc : n ≤ c) (hbig : n ≤ 100) :
    Calls Try.prog 104 #[.slice A n c, .func (.func 92) #[] #[.pointer (some ⟨b, 0, none⟩)]] w (VE w (.int .i64 (idxa l id))) := by
  have hb := World.block_lt_of_cell? w _ hc
  by_cases h0 : n = 0
  · have hz : idxa l id = -1 := by
      unfold idxa
      rw [if_neg (by omega)]
    rw [hz]
    subst h0
    clear hr hn hz hc hb
    go_enter Try.func104, Try.ntmps104
    go_wp2_with fail
    go_loop [8] (fun i => i = .int .i64 0) (fun _ => 0)
    case atStart => rfl
    case round =>
      obtain rfl := hrel
      go_wp2_with fail
      go_ret
      exact ⟨rfl, Below.refl _ _⟩
  have hlen := rows_len (C := Ac.cells) Ac.len l
  obtain ⟨g, o, rfl, hg, hx⟩ := (show _ from hr) (by intro e; rw [e] at hlen; simp at hlen; omega)
  clear hx hlen
  have HR := hid hr
  have HN := hid hn
  have HC := hid (fun W (hW : Below w.heap.size w W) => (hW.cell (p := ⟨b, 0, none⟩) hb).trans hc)
  have HZ := hid acSize
  have HNF : Hid (at_ Ac.id id l = l.length → idxa l id = -1) := hid fun e => by
    unfold idxa
    rw [if_neg (by omega)]
  have HF : Hid (∀ k, k < l.length → at_ Ac.id id l = k → idxa l id = (k : Int)) := hid fun k hk e => by
    unfold idxa
    rw [e, if_pos hk]
  generalize idxa l id = r at *
  clear hr hn hc
  go_enter Try.func104, Try.ntmps104
  go_wp2_with fail
  go_loopw [8] (fun i wr => ∃ k : Nat, k ≤ n ∧ i = .int .i64 (k : Int) ∧ Hid (k ≤ at_ Ac.id id l) ∧ Below w.heap.size w wr) (fun i _ => n - (intOf i).toNat)
  case atStart => exact ⟨0, by omega, rfl, hid (Nat.zero_le _), Below.refl _ _⟩
  case round =>
    obtain ⟨k, hk, rfl, HK, hbe⟩ := hrel
    have HBE := hid hbe
    by_cases hlt : k < n
    · have hkl : k < l.length := by rw [← HN.out]; exact hlt
      have HRG := hid ((HR.out.below hbe hB).range Ac.len k hkl)
      have HC4 : Hid ((Ac.cells l[k]).length = 4) := hid (Ac.len _)
      by_cases he : Ac.id l[k] = id
      · have HI := hid (isa_yes l[k] b wr (by rw [he]; exact HC.out wr hbe))
        have HAT := hid (HF.out k hkl (at_this Ac.id id l k HK.out hkl he))
        generalize Ac.cells l[k] = X at *
        clear hbe he
        go_wp2_with (first
          | (refine wpList_load_mid rfl 45 (.tmp 14) rfl g (o + k * 4) rfl X _ HRG.out Try.underlying45 rfl (by rw [HC4.out]; exact HZ.out) ?_)
          | (go_at_call 92; refine HI.out.mono ?_; rintro e w2 ⟨rfl, hb2⟩))
        go_ret
        rw [HAT.out]
        exact ⟨rfl, HBE.out.trans (hb2.mono HBE.out.size)⟩
      · have HI := hid (isa_no l[k] id b wr (HC.out wr hbe) he)
        have HAT : Hid (k + 1 ≤ at_ Ac.id id l) := hid (by
          rcases Nat.lt_or_ge k (at_ Ac.id id l) with h | h
          · omega
          · have e : at_ Ac.id id l = k := Nat.le_antisymm h HK.out
            have h2 := at_here Ac.id id l (by rw [e]; exact hkl)
            simp only [e] at h2
            exact absurd h2 he)
        generalize Ac.cells l[k] = X at *
        clear hbe he
        go_wp2_with (first
          | (refine wpList_load_mid rfl 45 (.tmp 14) rfl g (o + k * 4) rfl X _ HRG.out Try.underlying45 rfl (by rw [HC4.out]; exact HZ.out) ?_)
          | (go_at_call 92; refine HI.out.mono ?_; rintro e w2 ⟨rfl, hb2⟩))
        exact ⟨⟨k + 1, by omega, by go_num, hid HAT.out, HBE.out.trans (hb2.mono HBE.out.size)⟩, by simp [intOf]; omega⟩
    · obtain rfl : k = n := by omega
      have HAT := hid (HNF.out (by have := HK.out; have := at_le Ac.id id l; have := HN.out; omega))
      clear hbe
      go_wp2_with fail
      go_ret
      rw [HAT.out]
      exact ⟨rfl, HBE.out⟩

set_option maxHeartbeats 400000 in
theorem firsta_no (A : Option Addr) (l : List Ac) (n c B b id : Nat) (w : World) (hr : Rd w B A (rows Ac.cells l)) (hn : n = l.length) (hB : B ≤ w.heap.size) (hc : w.cell? ⟨b, 0, none⟩ = some (.int .u64 (id : Int))) (hnc : n ≤ c) (hbig : n ≤ 100) (hno : ¬ at_ Ac.id id l < l.length) :
    Calls Try.prog 91 #[.slice A n c, .func (.func 92) #[] #[.pointer (some ⟨b, 0, none⟩)]] w (VE w (.pointer none)) := by
  have HI := hid (indexa_any A l n c B b id w hr hn hB hc hnc hbig)
  have e : idxa l id = -1 := by
    unfold idxa
    rw [if_neg hno]
  rw [e] at HI
  clear hr hn hc hno e
  go_enter Try.func91, Try.ntmps91
  go_wp2_with (go_at_call 104; refine HI.out.mono ?_; rintro e w2 ⟨rfl, hb2⟩)
  go_ret
  exact ⟨rfl, hb2⟩
set_option maxHeartbeats 400000 in
theorem firsta_yes (g o : Nat) (l : List Ac) (n c B b id k : Nat) (w : World) (hr : Rd w B (some ⟨g, o, none⟩) (rows Ac.cells l)) (hn : n = l.length) (hB : B ≤ w.heap.size) (hc : w.cell? ⟨b, 0, none⟩ = some (.int .u64 (id : Int))) (hnc : n ≤ c) (hbig : n ≤ 100) (hk : at_ Ac.id id l = k) (hkn : k < n) :
    Calls Try.prog 91 #[.slice (some ⟨g, o, none⟩) n c, .func (.func 92) #[] #[.pointer (some ⟨b, 0, none⟩)]] w (VE w (.pointer (some ⟨g, o + k * 4, none⟩))) := by
  have HI := hid (indexa_any (some ⟨g, o, none⟩) l n c B b id w hr hn hB hc hnc hbig)
  have e : idxa l id = (k : Int) := by
    unfold idxa
    rw [hk, if_pos (by omega)]
  rw [e] at HI
  clear hr hn hc hk e
  go_enter Try.func91, Try.ntmps91
  go_wp2_with (go_at_call 104; refine HI.out.mono ?_; rintro e w2 ⟨rfl, hb2⟩)
  go_ret
  exact ⟨rfl, hb2⟩

set_option maxHeartbeats 400000 in
theorem account_no (p : Nat) (va vt : Value) (S : Lg) (id : Nat) (w : World) (h : HasG w 63 p va vt S) (hno : ¬ S.fa id < S.A.length) :
    Calls Try.prog 73 #[.pointer (some ⟨p, 0, none⟩), .int .u64 (id : Int)] w (VE w (.pointer none)) := by
  obtain ⟨A, c, e, hnc, hrd⟩ := h.va_shape
  have hc0 := h.c0
  rw [e] at hc0
  have hw := h.wf.la
  have hp := h.box.lt
  have HF := hid (fun W (hW : Below w.heap.size w W) b (hb : W.cell? ⟨b, 0, none⟩ = some (.int .u64 (id : Int))) => firsta_no A S.A S.A.length c w.heap.size b id W (hrd.below hW (Nat.le_refl _)) rfl hW.size hb hnc (by omega) hno)
  generalize S.A.length = n at *
  clear h e hrd hno
  go_enter Try.func73, Try.ntmps73
  go_wp2_with (go_at_call 91; refine (HF.out _ ((Below.refl _ _).alloc (Nat.le_refl _) _) _ (by simp)).mono ?_; rintro e w2 ⟨rfl, hb2⟩)
  go_ret
  exact ⟨rfl, ((Below.refl _ _).alloc (Nat.le_refl _) _).trans (hb2.mono (by simp))⟩
set_option maxHeartbeats 400000 in
theorem account_yes (p g k : Nat) (va vt : Value) (S : Lg) (id : Nat) (w : World) (h : HasG w 63 p va vt S) (hg : va.ownBlock = some g) (hk : S.fa id = k) (hkn : k < S.A.length) :
    Calls Try.prog 73 #[.pointer (some ⟨p, 0, none⟩), .int .u64 (id : Int)] w (VE w (.pointer (some ⟨g, k * 4, none⟩))) := by
  obtain ⟨A, c, e, hnc, hrd⟩ := h.va_shape
  obtain ⟨g', c', e', -, hg'⟩ := own_some h.accs (by omega : 0 < S.A.length)
  rw [hg] at hg'
  cases hg'
  rw [e'] at e
  simp only [Value.slice.injEq] at e
  obtain ⟨rfl, -, rfl⟩ := e
  have hc0 := h.c0
  rw [e'] at hc0
  have hw := h.wf.la
  have hp := h.box.lt
  have HF := hid (fun W (hW : Below w.heap.size w W) b (hb : W.cell? ⟨b, 0, none⟩ = some (.int .u64 (id : Int))) => firsta_yes g 0 S.A S.A.length c' w.heap.size b id k W (hrd.below hW (Nat.le_refl _)) rfl hW.size hb hnc (by omega) hk hkn)
  rw [Nat.zero_add] at HF
  generalize S.A.length = n at *
  clear h e' hrd hk hg
  go_enter Try.func73, Try.ntmps73
  go_wp2_with (go_at_call 91; refine (HF.out _ ((Below.refl _ _).alloc (Nat.le_refl _) _) _ (by simp)).mono ?_; rintro e w2 ⟨rfl, hb2⟩)
  go_ret
  exact ⟨rfl, ((Below.refl _ _).alloc (Nat.le_refl _) _).trans (hb2.mono (by simp))⟩

set_option maxHeartbeats 400000 in
theorem ist_yes (x : Tr) (b : Nat) (w : World) (hc : w.cell? ⟨b, 0, none⟩ = some (.int .u64 (Tr.a x : Int))) : Calls Try.prog 95 #[.agg (Tr.cells x).toArray, .pointer (some ⟨b, 0, none⟩)] w (VE w (.bool true)) := by
  have hb := World.block_lt_of_cell? w _ hc
  obtain ⟨id, xb, xc, xd⟩ := x
  show Calls Try.prog 95 #[.agg #[.int .u64 (id : Int), .int .u64 (xb : Int), .int .u64 (xc : Int), .int .u64 (xd : Int)], .pointer (some ⟨b, 0, none⟩)] w _
  go_enter Try.func95, Try.ntmps95
  go_wp2_with fail
  go_ret
  exact ⟨rfl, (Below.refl _ _).alloc (Nat.le_refl _) _⟩
set_option maxHeartbeats 400000 in
theorem ist_no (x : Tr) (id' : Nat) (b : Nat) (w : World) (hc : w.cell? ⟨b, 0, none⟩ = some (.int .u64 (id' : Int))) (hne : Tr.a x ≠ id') : Calls Try.prog 95 #[.agg (Tr.cells x).toArray, .pointer (some ⟨b, 0, none⟩)] w (VE w (.bool false)) := by
  have hb := World.block_lt_of_cell? w _ hc
  obtain ⟨id, xb, xc, xd⟩ := x
  have h1 : ((id : Int) == (id' : Int)) = false := beq_eq_false_iff_ne.2 (by intro e; apply hne; show id = id'; omega)
  clear hne
  show Calls Try.prog 95 #[.agg #[.int .u64 (id : Int), .int .u64 (xb : Int), .int .u64 (xc : Int), .int .u64 (xd : Int)], .pointer (some ⟨b, 0, none⟩)] w _
  go_enter Try.func95, Try.ntmps95
  go_wp2_with fail
  go_ret
  exact ⟨rfl, (Below.refl _ _).alloc (Nat.le_refl _) _⟩

def idxt (l : List Tr) (id : Nat) : Int := if at_ Tr.a id l < l.length then (at_ Tr.a id l : Int) else -1
set_option maxHeartbeats 1000000 in
theorem indext_any (A : Option Addr) (l : List Tr) (n c B b id : Nat) (w : World) (hr : Rd w B A (rows Tr.cells l)) (hn : n = l.length) (hB : B ≤ w.heap.size) (hc : w.cell? ⟨b, 0, none⟩ = some (.int .u64 (id : Int))) (hnc : n ≤ c) (hbig : n ≤ 100) :
    Calls Try.prog 105 #[.slice A n c, .func (.func 95) #[] #[.pointer (some ⟨b, 0, none⟩)]] w (VE w (.int .i64 (idxt l id))) := by
  have hb := World.block_lt_of_cell? w _ hc
  by_cases h0 : n = 0
  · have hz : idxt l id = -1 := by
      unfold idxt
      rw [if_neg (by omega)]
    rw [hz]
    subst h0
    clear hr hn hz hc hb
    go_enter Try.func105, Try.ntmps105
    go_wp2_with fail
    go_loop [8] (fun i => i = .int .i64 0) (fun _ => 0)
    case atStart => rfl
    case round =>
      obtain rfl := hrel
      go_wp2_with fail
      go_ret
      exact ⟨rfl, Below.refl _ _⟩
  have hlen := rows_len (C := Tr.cells) Tr.len l
  obtain ⟨g, o, rfl, hg, hx⟩ := (show _ from hr) (by intro e; rw [e] at hlen; simp at hlen; omega)
  clear hx hlen
  have HR := hid hr
  have HN := hid hn
  have HC := hid (fun W (hW : Below w.heap.size w W) => (hW.cell (p := ⟨b, 0, none⟩) hb).trans hc)
  have HZ := hid trSize
  have HNF : Hid (at_ Tr.a id l = l.length → idxt l id = -1) := hid fun e => by
    unfold idxt
    rw [if_neg (by omega)]
  have HF : Hid (∀ k, k < l.length → at_ Tr.a id l = k → idxt l id = (k : Int)) := hid fun k hk e => by
    unfold idxt
    rw [e, if_pos hk]
  generalize idxt l id = r at *
  clear hr hn hc
  go_enter Try.func105, Try.ntmps105
  go_wp2_with fail
  go_loopw [8] (fun i wr => ∃ k : Nat, k ≤ n ∧ i = .int .i64 (k : Int) ∧ Hid (k ≤ at_ Tr.a id l) ∧ Below w.heap.size w wr) (fun i _ => n - (intOf i).toNat)
  case atStart => exact ⟨0, by omega, rfl, hid (Nat.zero_le _), Below.refl _ _⟩
  case round =>
    obtain ⟨k, hk, rfl, HK, hbe⟩ := hrel
    have HBE := hid hbe
    by_cases hlt : k < n
    · have hkl : k < l.length := by rw [← HN.out]; exact hlt
      have HRG := hid ((HR.out.below hbe hB).range Tr.len k hkl)
      have HC4 : Hid ((Tr.cells l[k]).length = 4) := hid (Tr.len _)
      by_cases he : Tr.a l[k] = id
      · have HI := hid (ist_yes l[k] b wr (by rw [he]; exact HC.out wr hbe))
        have HAT := hid (HF.out k hkl (at_this Tr.a id l k HK.out hkl he))
        generalize Tr.cells l[k] = X at *
        clear hbe he
        go_wp2_with (first
          | (refine wpList_load_mid rfl 43 (.tmp 14) rfl g (o + k * 4) rfl X _ HRG.out Try.underlying43 rfl (by rw [HC4.out]; exact HZ.out) ?_)
          | (go_at_call 95; refine HI.out.mono ?_; rintro e w2 ⟨rfl, hb2⟩))
        go_ret
        rw [HAT.out]
        exact ⟨rfl, HBE.out.trans (hb2.mono HBE.out.size)⟩
      · have HI := hid (ist_no l[k] id b wr (HC.out wr hbe) he)
        have HAT : Hid (k + 1 ≤ at_ Tr.a id l) := hid (by
          rcases Nat.lt_or_ge k (at_ Tr.a id l) with h | h
          · omega
          · have e : at_ Tr.a id l = k := Nat.le_antisymm h HK.out
            have h2 := at_here Tr.a id l (by rw [e]; exact hkl)
            simp only [e] at h2
            exact absurd h2 he)
        generalize Tr.cells l[k] = X at *
        clear hbe he
        go_wp2_with (first
          | (refine wpList_load_mid rfl 43 (.tmp 14) rfl g (o + k * 4) rfl X _ HRG.out Try.underlying43 rfl (by rw [HC4.out]; exact HZ.out) ?_)
          | (go_at_call 95; refine HI.out.mono ?_; rintro e w2 ⟨rfl, hb2⟩))
        exact ⟨⟨k + 1, by omega, by go_num, hid HAT.out, HBE.out.trans (hb2.mono HBE.out.size)⟩, by simp [intOf]; omega⟩
    · obtain rfl : k = n := by omega
      have HAT := hid (HNF.out (by have := HK.out; have := at_le Tr.a id l; have := HN.out; omega))
      clear hbe
      go_wp2_with fail
      go_ret
      rw [HAT.out]
      exact ⟨rfl, HBE.out⟩

set_option maxHeartbeats 400000 in
theorem firstt_no (A : Option Addr) (l : List Tr) (n c B b id : Nat) (w : World) (hr : Rd w B A (rows Tr.cells l)) (hn : n = l.length) (hB : B ≤ w.heap.size) (hc : w.cell? ⟨b, 0, none⟩ = some (.int .u64 (id : Int))) (hnc : n ≤ c) (hbig : n ≤ 100) (hno : ¬ at_ Tr.a id l < l.length) :
    Calls Try.prog 94 #[.slice A n c, .func (.func 95) #[] #[.pointer (some ⟨b, 0, none⟩)]] w (VE w (.pointer none)) := by
  have HI := hid (indext_any A l n c B b id w hr hn hB hc hnc hbig)
  have e : idxt l id = -1 := by
    unfold idxt
    rw [if_neg hno]
  rw [e] at HI
  clear hr hn hc hno e
  go_enter Try.func94, Try.ntmps94
  go_wp2_with (go_at_call 105; refine HI.out.mono ?_; rintro e w2 ⟨rfl, hb2⟩)
  go_ret
  exact ⟨rfl, hb2⟩
set_option maxHeartbeats 400000 in
theorem firstt_yes (g o : Nat) (l : List Tr) (n c B b id k : Nat) (w : World) (hr : Rd w B (some ⟨g, o, none⟩) (rows Tr.cells l)) (hn : n = l.length) (hB : B ≤ w.heap.size) (hc : w.cell? ⟨b, 0, none⟩ = some (.int .u64 (id : Int))) (hnc : n ≤ c) (hbig : n ≤ 100) (hk : at_ Tr.a id l = k) (hkn : k < n) :
    Calls Try.prog 94 #[.slice (some ⟨g, o, none⟩) n c, .func (.func 95) #[] #[.pointer (some ⟨b, 0, none⟩)]] w (VE w (.pointer (some ⟨g, o + k * 4, none⟩))) := by
  have HI := hid (indext_any (some ⟨g, o, none⟩) l n c B b id w hr hn hB hc hnc hbig)
  have e : idxt l id = (k : Int) := by
    unfold idxt
    rw [hk, if_pos (by omega)]
  rw [e] at HI
  clear hr hn hc hk e
  go_enter Try.func94, Try.ntmps94
  go_wp2_with (go_at_call 105; refine HI.out.mono ?_; rintro e w2 ⟨rfl, hb2⟩)
  go_ret
  exact ⟨rfl, hb2⟩

set_option maxHeartbeats 400000 in
theorem transfer_no (p : Nat) (va vt : Value) (S : Lg) (id : Nat) (w : World) (h : HasG w 63 p va vt S) (hno : ¬ S.ft id < S.T.length) :
    Calls Try.prog 79 #[.pointer (some ⟨p, 0, none⟩), .int .u64 (id : Int)] w (VE w (.pointer none)) := by
  obtain ⟨A, c, e, hnc, hrd⟩ := h.vt_shape
  have hc0 := h.c1
  rw [e] at hc0
  have hw := h.wf.lt
  have hp := h.box.lt
  have HF := hid (fun W (hW : Below w.heap.size w W) b (hb : W.cell? ⟨b, 0, none⟩ = some (.int .u64 (id : Int))) => firstt_no A S.T S.T.length c w.heap.size b id W (hrd.below hW (Nat.le_refl _)) rfl hW.size hb hnc (by omega) hno)
  generalize S.T.length = n at *
  clear h e hrd hno
  go_enter Try.func79, Try.ntmps79
  go_wp2_with (go_at_call 94; refine (HF.out _ ((Below.refl _ _).alloc (Nat.le_refl _) _) _ (by simp)).mono ?_; rintro e w2 ⟨rfl, hb2⟩)
  go_ret
  exact ⟨rfl, ((Below.refl _ _).alloc (Nat.le_refl _) _).trans (hb2.mono (by simp))⟩
set_option maxHeartbeats 400000 in
theorem transfer_yes (p g k : Nat) (va vt : Value) (S : Lg) (id : Nat) (w : World) (h : HasG w 63 p va vt S) (hg : vt.ownBlock = some g) (hk : S.ft id = k) (hkn : k < S.T.length) :
    Calls Try.prog 79 #[.pointer (some ⟨p, 0, none⟩), .int .u64 (id : Int)] w (VE w (.pointer (some ⟨g, k * 4, none⟩))) := by
  obtain ⟨A, c, e, hnc, hrd⟩ := h.vt_shape
  obtain ⟨g', c', e', -, hg'⟩ := own_some h.trs (by omega : 0 < S.T.length)
  rw [hg] at hg'
  cases hg'
  rw [e'] at e
  simp only [Value.slice.injEq] at e
  obtain ⟨rfl, -, rfl⟩ := e
  have hc0 := h.c1
  rw [e'] at hc0
  have hw := h.wf.lt
  have hp := h.box.lt
  have HF := hid (fun W (hW : Below w.heap.size w W) b (hb : W.cell? ⟨b, 0, none⟩ = some (.int .u64 (id : Int))) => firstt_yes g 0 S.T S.T.length c' w.heap.size b id k W (hrd.below hW (Nat.le_refl _)) rfl hW.size hb hnc (by omega) hk hkn)
  rw [Nat.zero_add] at HF
  generalize S.T.length = n at *
  clear h e' hrd hk hg
  go_enter Try.func79, Try.ntmps79
  go_wp2_with (go_at_call 94; refine (HF.out _ ((Below.refl _ _).alloc (Nat.le_refl _) _) _ (by simp)).mono ?_; rintro e w2 ⟨rfl, hb2⟩)
  go_ret
  exact ⟨rfl, ((Below.refl _ _).alloc (Nat.le_refl _) _).trans (hb2.mono (by simp))⟩
end Go.Proofs.Ytbofabmgfkploaa
