/-
  The walks of package session's lay and Pack.
-/
import Derived.Test.YtgphijkonmdehaaOpn
namespace Go.Proofs.Ytgphijkonmdehaa
open Go.RowKit
set_option maxRecDepth 10000

/-- arr[i] of an array by value, its elements of one cell, as a step of the walk -/
theorem wpl_index_arr {P : Program} {w : World} {ops : Array Oper} {rest : List Oper} {o : Oper} {a : Act} {Q : Exit → Act → World → Prop} (hgd : o.guard = none) (t : TypeId) (x y : Operand) (ho : o.op = .index t x y)
    (e n : Nat) (cs : Array Value) (k : IntKind) (i : Nat) (v : Value) (hx : a.eval x = .agg cs) (hy : a.eval y = .int k (i : Int)) (h : P.underlying t = some (.array n e)) (hg : ∀ w, (isAgg e).run P w = .ok false w)
    (hs : (P.info? e).map (·.size) = some 1) (hi : i < n) (hv : cs[i]? = some v) (hK : wpList P ops Q rest (a.put o.dst v) w) : wpList P ops Q (o :: rest) a w := by
  refine wpList_plain hgd fun K hK' => ?_
  obtain ⟨j, hj, hjs⟩ := Option.map_eq_some_iff.1 hs
  have h1 : (0 : Int) ≤ i ∧ (i : Int) < (n : Int) := by omega
  have hrun : (Instr.index t (.agg cs) (.int k (i : Int))).run P w = .ok v w := by
    simp [Instr.index, run_underlying h, asIntOf, sizeOf, typeInfo, hj, hjs, Go.part, hg, hi, hv]
  unfold Oper.wp execOp
  simp only [ho, hx, hy, Sem.run_bind, Sem.run_pure, Result.andThen_ok, hrun]
  exact hK' _ _ hK
/-- bytes, so many -/
def BS (w : World) (bs : List UInt8) (n : Nat) (e : Ending) (w' : World) : Prop := ∃ A c, e = .returned (.slice A n c) ∧ Rd w' w'.heap.size A (bvs bs) ∧ Below w.heap.size w w'
/-- bytes, so many, and no error -/
def BN (w : World) (bs : List UInt8) (n : Nat) (e : Ending) (w' : World) : Prop := ∃ A c, e = .returned (.tuple #[.slice A n c, .int .i64 0]) ∧ Rd w' w'.heap.size A (bvs bs) ∧ Below w.heap.size w w'
theorem BN.of {w w' : World} {e : Ending} {bs : List UInt8} {n : Nat} (h : BE w (bs, 0) e w') (hn : bs.length = n) : BN w bs n e w' := by
  obtain ⟨A', c', e1, ho, hb⟩ := BE.len h hn
  obtain ⟨A2, c2, e2, _, _, hrd⟩ := own_shape ho
  cases e2
  exact ⟨A', c', e1, hrd, hb⟩
theorem put_eight (A : Option Addr) (bs : List UInt8) (m c n B : Nat) (W : World) (hr : Rd W B A (bvs bs)) (hm : m = bs.length) (hn : U64 n) (hB : B ≤ W.heap.size) (hl : m ≤ 140737488351232) :
    Calls Try.prog 30 #[.slice A m c, .int .u64 (n : Int), .int .i64 8] W (BN W (bs ++ le n 8) (m + 8)) := by
  subst hm
  have h := put_any A bs bs.length c n B 8 W hr rfl hB hl
  have e : putS bs n 8 = (bs ++ le n 8, 0) := by
    unfold putS
    rw [if_pos ⟨by omega, by omega, Nat.div_eq_of_lt (by simpa using hn)⟩]
    rfl
  rw [e] at h
  exact h.mono fun e w' hh => BN.of hh (by simp [le_len])
theorem put_count (n : Nat) (hn : n ≤ 3) (W : World) : Calls Try.prog 30 #[.slice none 0 0, .int .u64 (n : Int), .int .i64 1] W (BN W [UInt8.ofNat n] 1) := by
  have h2 := put_any none [] 0 0 n 0 1 W Rd.nil rfl (Nat.zero_le _) (by omega)
  have e : putS [] n 1 = ([UInt8.ofNat n], 0) := by
    unfold putS
    rw [if_pos ⟨by omega, by omega, Nat.div_eq_of_lt (by show n < 2 ^ 8; omega)⟩]
    rfl
  rw [e] at h2
  exact h2.mono fun e w' hh => BN.of hh rfl
theorem pt_text (A : Option Addr) (bs : List UInt8) (m c B : Nat) (t : ByteArray) (W : World) (hr : Rd W B A (bvs bs)) (hm : m = bs.length) (ht : t.size ≤ 200) (hB : B ≤ W.heap.size) (hl : m ≤ 140737488200000) :
    Calls Try.prog 44 #[.slice A m c, .string t] W (BN W (bs ++ le t.size 2 ++ sb t) (m + 2 + t.size)) := by
  subst hm
  have h := pt_any A bs bs.length c B t W hr rfl hB hl
  have e : ptS bs (sb t) = (bs ++ le t.size 2 ++ sb t, 0) := by
    unfold ptS
    rw [sb_len, if_neg (by omega)]
  rw [e] at h
  exact h.mono fun e w' hh => BN.of hh (by simp [le_len, sb_len]; omega)
theorem u64_fit (n : Nat) (h : n ≤ 72057594037927935) : IntKind.u64.wrap (n : Int) = (n : Int) := by
  rw [IntKind.wrap_u64]
  omega
/-- the first k numbers behind bs -/
def layK (bs : List UInt8) (a b c d : Nat) : Nat → List UInt8
  | 0 => bs
  | 1 => bs ++ le a 8
  | 2 => bs ++ le a 8 ++ le b 8
  | 3 => bs ++ le a 8 ++ le b 8 ++ le c 8
  | _ => bs ++ le a 8 ++ le b 8 ++ le c 8 ++ le d 8
theorem layK_len (bs : List UInt8) (a b c d : Nat) : ∀ k, k ≤ 4 → (layK bs a b c d k).length = bs.length + k * 8
  | 0, _ => by simp [layK]
  | 1, _ => by simp [layK, le_len]
  | 2, _ => by simp [layK, le_len]
  | 3, _ => by simp [layK, le_len]
  | 4, _ => by simp [layK, le_len]
  | k + 5, h => by omega
set_option maxHeartbeats 2000000 in
theorem lays_nat (A : Option Addr) (bs : List UInt8) (l cap B : Nat) (a b c d : Nat) (t : ByteArray) (w : World) (ha : a ≤ 72057594037927935) (hb : b ≤ 72057594037927935) (hc : c ≤ 72057594037927935) (hd : d ≤ 72057594037927935) (ht : t.size ≤ 200) (hr : Rd w B A (bvs bs)) (hl : l = bs.length) (hB : B ≤ w.heap.size) (hl2 : l ≤ 10000) :
    Calls Try.prog 31 #[.slice A l cap, .agg #[.int .i64 (a : Int), .int .i64 (b : Int), .int .i64 (c : Int), .int .i64 (d : Int), .string t]] w (BS w (layK bs a b c d 4 ++ le t.size 2 ++ sb t) (l + 34 + t.size)) := by
  have ea := u64_fit a ha
  have eb := u64_fit b hb
  have ec := u64_fit c hc
  have ed := u64_fit d hd
  have HL := hid (fun k (hk : k ≤ 4) => layK_len bs a b c d k hk)
  rw [← hl] at HL
  have HST0 : Hid (layK bs a b c d 0 = bs) := hid rfl
  have HST1 : Hid (layK bs a b c d 0 ++ le a 8 = layK bs a b c d 1) := hid rfl
  have HST2 : Hid (layK bs a b c d 1 ++ le b 8 = layK bs a b c d 2) := hid rfl
  have HST3 : Hid (layK bs a b c d 2 ++ le c 8 = layK bs a b c d 3) := hid rfl
  have HST4 : Hid (layK bs a b c d 3 ++ le d 8 = layK bs a b c d 4) := hid rfl
  have HW := hid (Row.new w 37 #[.int .i64 (a : Int), .int .i64 (b : Int), .int .i64 (c : Int), .int .i64 (d : Int), .string t])
  have HB0 := hid ((Below.refl w.heap.size w).alloc (Nat.le_refl _) (.cells #[.int .i64 (a : Int), .int .i64 (b : Int), .int .i64 (c : Int), .int .i64 (d : Int), .string t] 37))
  have HR := hid (((hr.below HB0.out hB).more (B' := w.heap.size + 1) (by omega)))
  obtain ⟨w1, hw1⟩ : ∃ w1, w1 = w.alloc (.cells #[.int .i64 (a : Int), .int .i64 (b : Int), .int .i64 (c : Int), .int .i64 (d : Int), .string t] 37) := ⟨_, rfl⟩
  have HS1 : Hid (w1.heap.size = w.heap.size + 1) := hid (by rw [hw1]; simp)
  have HH1 := hid hw1
  rw [← hw1] at HW HB0 HR
  generalize layK bs a b c d = L at *
  have HPE := hid (fun A' xs m cc n B W (hr : Rd W B A' (bvs xs)) hm hn hB hl => put_eight A' xs m cc n B W hr hm hn hB hl)
  have HPT := hid (fun A' xs m cc B W (hr : Rd W B A' (bvs xs)) hm hB hl => pt_text A' xs m cc B t W hr hm ht hB hl)
  have HC4 := hid (fun W (hW : Below (w.heap.size + 1) w1 W) => show W.cell? ⟨w.heap.size, 4, none⟩ = some (.string t) from (HW.out.below hW (by omega)).at_ 4 _ rfl)
  have HSI := hid sizeInt
  have H0 := hid ha
  have H1 := hid hb
  have H2 := hid hc
  have H3 := hid hd
  clear hr hl hB hw1 ha hb hc hd ht
  go_enter Try.func31, Try.ntmps31
  go_wp2_with fail
  rw [← HH1.out]
  go_loopw [0, 16] (fun bv iv wr => ∃ k m A' c', k ≤ 4 ∧ m = l + k * 8 ∧ iv = .int .i64 ((k : Nat) : Int) ∧ bv = .slice A' m c' ∧ Hid (Rd wr wr.heap.size A' (bvs (L k))) ∧ Below (w.heap.size + 1) w1 wr) (fun _ iv _ => 4 - (intOf iv).toNat)
  case atStart => exact ⟨0, l, A, cap, by omega, by omega, rfl, rfl, hid (by rw [HST0.out]; exact HR.out.more (by rw [HS1.out]; omega)), Below.refl _ _⟩
  case round =>
    obtain ⟨k, m, A', c', hk, hm, rfl, rfl, HRD, hbe⟩ := hrel
    have HBE := hid hbe
    have HM := hid hm
    have hsz := hbe.size
    have HSZ := hid hsz
    clear hbe hm
    have h5 : k = 0 ∨ k = 1 ∨ k = 2 ∨ k = 3 ∨ k = 4 := by omega
    rcases h5 with rfl | rfl | rfl | rfl | rfl
    · go_wp2_with (first | (refine wpl_index_arr rfl 78 (.tmp 15) (.tmp 16) rfl 3 4 _ .i64 0 (.int .i64 (a : Int)) rfl rfl Try.underlying78 (fun w => Try.isAgg3 w) HSI.out (by decide) rfl ?_) | go_at_call 30; refine (HPE.out _ _ _ _ _ _ _ HRD.out (by rw [HL.out _ hk]; exact HM.out) (by have := H0.out; unfold U64; omega) (Nat.le_refl _) (by have := HM.out; omega)).mono ?_; rintro e w3 ⟨A3, c3, rfl, hrd3, hb3⟩)
      exact ⟨⟨1, m + 8, A3, c3, by omega, by have := HM.out; omega, rfl, rfl, hid (by rw [← HST1.out]; exact hrd3), HBE.out.trans (hb3.mono (by rw [← HS1.out]; exact HSZ.out))⟩, by simp [intOf]⟩
    · go_wp2_with (first | (refine wpl_index_arr rfl 78 (.tmp 15) (.tmp 16) rfl 3 4 _ .i64 1 (.int .i64 (b : Int)) rfl rfl Try.underlying78 (fun w => Try.isAgg3 w) HSI.out (by decide) rfl ?_) | go_at_call 30; refine (HPE.out _ _ _ _ _ _ _ HRD.out (by rw [HL.out _ hk]; exact HM.out) (by have := H1.out; unfold U64; omega) (Nat.le_refl _) (by have := HM.out; omega)).mono ?_; rintro e w3 ⟨A3, c3, rfl, hrd3, hb3⟩)
      exact ⟨⟨2, m + 8, A3, c3, by omega, by have := HM.out; omega, rfl, rfl, hid (by rw [← HST2.out]; exact hrd3), HBE.out.trans (hb3.mono (by rw [← HS1.out]; exact HSZ.out))⟩, by simp [intOf]⟩
    · go_wp2_with (first | (refine wpl_index_arr rfl 78 (.tmp 15) (.tmp 16) rfl 3 4 _ .i64 2 (.int .i64 (c : Int)) rfl rfl Try.underlying78 (fun w => Try.isAgg3 w) HSI.out (by decide) rfl ?_) | go_at_call 30; refine (HPE.out _ _ _ _ _ _ _ HRD.out (by rw [HL.out _ hk]; exact HM.out) (by have := H2.out; unfold U64; omega) (Nat.le_refl _) (by have := HM.out; omega)).mono ?_; rintro e w3 ⟨A3, c3, rfl, hrd3, hb3⟩)
      exact ⟨⟨3, m + 8, A3, c3, by omega, by have := HM.out; omega, rfl, rfl, hid (by rw [← HST3.out]; exact hrd3), HBE.out.trans (hb3.mono (by rw [← HS1.out]; exact HSZ.out))⟩, by simp [intOf]⟩
    · go_wp2_with (first | (refine wpl_index_arr rfl 78 (.tmp 15) (.tmp 16) rfl 3 4 _ .i64 3 (.int .i64 (d : Int)) rfl rfl Try.underlying78 (fun w => Try.isAgg3 w) HSI.out (by decide) rfl ?_) | go_at_call 30; refine (HPE.out _ _ _ _ _ _ _ HRD.out (by rw [HL.out _ hk]; exact HM.out) (by have := H3.out; unfold U64; omega) (Nat.le_refl _) (by have := HM.out; omega)).mono ?_; rintro e w3 ⟨A3, c3, rfl, hrd3, hb3⟩)
      exact ⟨⟨4, m + 8, A3, c3, by omega, by have := HM.out; omega, rfl, rfl, hid (by rw [← HST4.out]; exact hrd3), HBE.out.trans (hb3.mono (by rw [← HS1.out]; exact HSZ.out))⟩, by simp [intOf]⟩
    · have hc4 := HC4.out wr HBE.out
      go_wp2_with (go_at_call 44; refine (HPT.out _ _ _ _ _ _ HRD.out (by rw [HL.out _ hk]; exact HM.out) (Nat.le_refl _) (by have := HM.out; omega)).mono ?_; rintro e w3 ⟨A3, c3, rfl, hrd3, hb3⟩)
      go_ret
      refine ⟨A3, c3, by have := HM.out; rw [show l + 34 + t.size = m + 2 + t.size by omega]; rfl, hrd3, ?_⟩
      have h1 := HBE.out.mono (show w.heap.size ≤ w.heap.size + 1 by omega)
      exact (HB0.out.trans h1).trans (hb3.mono (by have := HSZ.out; have := HS1.out; omega))

theorem lays_any (A : Option Addr) (bs : List UInt8) (l cap B : Nat) (x : Ss) (hx : x.ok) (w : World) (hr : Rd w B A (bvs bs)) (hl : l = bs.length) (hB : B ≤ w.heap.size) (hl2 : l ≤ 10000) :
    Calls Try.prog 31 #[.slice A l cap, .agg x.cells.toArray] w (BS w (bs ++ ssB x) (l + (34 + x.t.size))) := by
  obtain ⟨c, s, r, o, t⟩ := x
  obtain ⟨h1, h2, h3, h4, h5⟩ := hx
  obtain ⟨c', rfl⟩ : ∃ n : Nat, c = (n : Int) := ⟨c.toNat, by have := h1.1; simp only at this; omega⟩
  obtain ⟨s', rfl⟩ : ∃ n : Nat, s = (n : Int) := ⟨s.toNat, by have := h2.1; simp only at this; omega⟩
  obtain ⟨r', rfl⟩ : ∃ n : Nat, r = (n : Int) := ⟨r.toNat, by have := h3.1; simp only at this; omega⟩
  obtain ⟨o', rfl⟩ : ∃ n : Nat, o = (n : Int) := ⟨o.toNat, by have := h4.1; simp only at this; omega⟩
  have e : bs ++ ssB ⟨(c' : Int), (s' : Int), (r' : Int), (o' : Int), t⟩ = layK bs c' s' r' o' 4 ++ le t.size 2 ++ sb t := by
    simp only [ssB, layK, Int.toNat_natCast, List.append_assoc]
  rw [e, ← Nat.add_assoc]
  exact lays_nat A bs l cap B c' s' r' o' t w (by have := h1.2; simp only at this; omega) (by have := h2.2; simp only at this; omega) (by have := h3.2; simp only at this; omega) (by have := h4.2; simp only at this; omega) h5 hr hl hB hl2
/-- the first k sessions, packed -/
def packK (T : List Ss) (k : Nat) : List UInt8 := UInt8.ofNat T.length :: (T.take k).flatMap ssB
theorem packK_step (T : List Ss) (k : Nat) (h : k < T.length) : packK T (k + 1) = packK T k ++ ssB T[k] := by
  unfold packK
  rw [List.take_succ_eq_append_getElem h, List.flatMap_append]
  simp
theorem packK_all (T : List Ss) : packK T T.length = pack T := by unfold packK pack; rw [List.take_length]
theorem packK_le {T : List Ss} (h : WF T) (k : Nat) : (packK T k).length ≤ 1 + k * 234 := by
  induction k with
  | zero => simp [packK]
  | succ k ih =>
    by_cases hk : k < T.length
    · rw [packK_step T k hk, List.length_append, ssB_len]
      have := (h.ok _ (List.getElem_mem hk)).t
      omega
    · have e : packK T (k + 1) = packK T k := by unfold packK; rw [List.take_of_length_le (by omega), List.take_of_length_le (by omega)]
      rw [e]; omega
set_option maxHeartbeats 400000 in
theorem pack_nil (w : World) : Calls Try.prog 16 #[.pointer none] w (SE w [0]) := by
  have HP := hid (fun W => put_count 0 (by omega) W)
  have HP2 : Hid (∀ W, Calls Try.prog 30 #[.slice none 0 0, .int .u64 0, .int .i64 1] W (BN W [UInt8.ofNat 0] 1)) := hid HP.out
  go_enter Try.func16, Try.ntmps16
  go_wp2_with (first
    | (go_at_call 15; refine (list_nil w).mono ?_; intro e w2 hh; obtain ⟨A2, c2, rfl, hc2, -, hb2, -⟩ := hh.ls; simp only [List.length_nil])
    | (go_at_call 30; refine (HP2.out _).mono ?_; rintro e w3 ⟨A3, c3, rfl, hrd3, hb3⟩))
  go_loop [4, 19] (fun b i => i = .int .i64 0 ∧ b = .slice A3 1 c3) (fun _ _ => 0)
  case atStart => exact ⟨rfl, rfl⟩
  case round =>
    obtain ⟨rfl, rfl⟩ := hrel
    go_wp2_with (with_reducible refine wpl_str rfl _ 60 9 rfl 5 Try.underlying60 Try.underlying5 Try.underlying9 A3 1 c3 rfl w3.heap.size [UInt8.ofNat 0] ?_ (hid hrd3) (hid rfl))
    go_ret
    exact ⟨rfl, hb2.trans (hb3.mono hb2.size)⟩
set_option maxHeartbeats 2000000 in
theorem pack_has (p : Nat) (v : Value) (T : List Ss) (w : World) (h : HasT w 54 p v T) : Calls Try.prog 16 #[.pointer (some ⟨p, 0, none⟩)] w (SE w (pack T)) := by
  have hw := h.wf.le
  have HLS := hid (list_has p v T w h)
  have HLE := hid (fun k => packK_le h.wf k)
  have HST := hid (packK_step T)
  have HOK := hid (fun k (hk : k < T.length) => h.wf.ok T[k] (List.getElem_mem hk))
  have HK0 : Hid (packK T 0 = [UInt8.ofNat T.length]) := hid rfl
  have HALL := hid (packK_all T)
  have HZ := hid ssSize
  have HP := hid (fun W => put_count T.length hw W)
  generalize pack T = bsT at *
  obtain ⟨n, hn⟩ : ∃ n, T.length = n := ⟨_, rfl⟩
  rw [hn] at HK0 HALL HP hw
  have HN := hid hn
  have hwn := u64_fit n (by omega)
  clear h
  go_enter Try.func16, Try.ntmps16
  go_wp2_with (first
    | (go_at_call 15; refine HLS.out.mono ?_; intro e w2 hh; obtain ⟨A2, c2, rfl, hc2, hrd2, hb2, -⟩ := hh.ls; have HRD2 := hid hrd2; have HB2 := hid hb2; clear hrd2 hb2 hh; rw [hn] at hc2 ⊢)
    | (go_at_call 30; refine (HP.out _).mono ?_; rintro e w3 ⟨A3, c3, rfl, hrd3, hb3⟩; have HRD3 := hid hrd3; have HB3 := hid hb3; clear hrd3 hb3))
  clear hn
  go_loopw [4, 19] (fun bv iv wr => ∃ k m A' c', k ≤ n ∧ m ≤ 1 + k * 234 ∧ Hid (m = (packK T k).length) ∧ iv = .int .i64 ((k : Nat) : Int) ∧ bv = .slice A' m c' ∧ Hid (Rd wr wr.heap.size A' (bvs (packK T k))) ∧ Below w2.heap.size w2 wr) (fun _ iv _ => n - (intOf iv).toNat)
  case atStart => exact ⟨0, 1, A3, c3, by omega, by omega, hid (by rw [HK0.out]; rfl), rfl, rfl, hid (by rw [HK0.out]; exact HRD3.out), HB3.out⟩
  case round =>
    obtain ⟨k, m, A', c', hk, hm, HM, rfl, rfl, HRD, hbe⟩ := hrel
    have HBE := hid hbe
    by_cases hlt : k < n
    · have hkl : k < T.length := by rw [HN.out]; exact hlt
      have hrd := HRD2.out.below hbe (Nat.le_refl _)
      obtain ⟨ga, o, rfl⟩ := shape_of hrd Ss.len (by decide) (by omega)
      have hrg := hrd.range Ss.len k hkl
      have HLY := hid (fun A'' xs l cap B W (hr : Rd W B A'' (bvs xs)) hl hB hl2 => lays_any A'' xs l cap B T[k] (HOK.out k hkl) W hr hl hB hl2)
      have HT := hid (HST.out k hkl)
      have HTL : Hid (T[k].t.size ≤ 200 ∧ (ssB T[k]).length = 34 + T[k].t.size) := hid ⟨(HOK.out k hkl).t, ssB_len _⟩
      have HC5 : Hid ((Ss.cells T[k]).length = 5) := hid (Ss.len _)
      have HC1 : Hid ((Ss.cells T[k]).all (·.oneCell') = true) := hid (Ss.one _)
      generalize T[k].t.size = tz at *
      generalize ssB T[k] = sB at *
      generalize Ss.cells T[k] = X at *
      have HRG := hid hrg
      have hi0 : (0 : Int) ≤ (k : Int) := by omega
      have hi1 : (k : Int) < (n : Int) := by omega
      clear hbe hrd hrg
      go_wp2_with (first
        | (refine wpList_load_mid rfl 37 (.tmp 21) rfl ga (o + k * 5) rfl X _ HRG.out Try.underlying37 rfl (by rw [HC5.out]; exact HZ.out) ?_)
        | (refine wpl_store_st rfl (.tmp 7) (.tmp 22) rfl HZ.out wr.heap.size ss0.cells X rfl rfl (Row.new _ _ _) ?_ (hid rfl) (hid HC5.out) (hid HC1.out); intro w4 hr4 hg4; have hb4 : Below wr.heap.size wr w4 := ((Below.refl _ _).alloc (Nat.le_refl _) _).trans (below_grown hg4 (Nat.le_refl _) (by simp)); have HB4 := hid hb4; have HR4 := hid hr4; clear hb4 hg4 hr4)
        | (refine wpList_load_row rfl 37 (.tmp 7) rfl wr.heap.size rfl 37 X.toArray (0, 0) _ HR4.out.arr' Try.underlying37 rfl (by rw [List.size_toArray, HC5.out]; exact HZ.out) ?_)
        | (go_at_call 31; refine (HLY.out _ _ _ _ _ _ (HRD.out.below HB4.out (Nat.le_refl _)) HM.out HB4.out.size (by omega)).mono ?_; rintro e w5 ⟨A5, c5, rfl, hrd5, hb5⟩))
      exact ⟨⟨k + 1, _, A5, c5, by omega, by have := HTL.out.1; omega, hid (by rw [HT.out, List.length_append, ← HM.out, HTL.out.2]), by go_num, rfl, hid (by rw [HT.out]; exact hrd5), HBE.out.trans ((HB4.out.trans (hb5.mono HB4.out.size)).mono HBE.out.size)⟩, by simp [intOf]; omega⟩
    · obtain rfl : k = n := by omega
      clear hbe
      go_wp2_with (with_reducible refine wpl_str rfl _ 60 9 rfl 5 Try.underlying60 Try.underlying5 Try.underlying9 A' m c' rfl wr.heap.size (packK T k) ?_ (hid HRD.out) (hid HM.out))
      go_ret
      exact ⟨by rw [HALL.out]; rfl, HB2.out.trans (HBE.out.mono HB2.out.size)⟩
theorem pack_any (p : Nat) (fp : List Nat) (T : List Ss) (w : World) (h : Gk 54 p T fp w) : Calls Try.prog 16 #[.pointer (some ⟨p, 0, none⟩)] w (SE w (pack T)) := by
  obtain ⟨v, -, h⟩ := h
  exact pack_has p v T w h
end Go.Proofs.Ytgphijkonmdehaa
