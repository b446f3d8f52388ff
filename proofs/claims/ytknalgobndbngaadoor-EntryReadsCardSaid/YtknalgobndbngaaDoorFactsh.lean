/-
  Plain words on headers: which may be, what is packed and read again, what was turned, cut or grown is found.
-/
import Derived.Test.YtknalgobndbngaaDoorPack
import Derived.Test.YtknalgobndbngaaDoorRright
namespace Go.Proofs.YtknalgobndbngaaDoor
open Go.RowKit

theorem leV_le : ∀ (k n : Nat), n / 2 ^ (8 * k) = 0 → leV (le n k) = n
  | 0, n, h => by simp at h; subst h; rfl
  | k + 1, n, h => by
    have h2 : n / 256 / 2 ^ (8 * k) = 0 := by
      rw [Nat.div_div_eq_div_mul, show 256 * 2 ^ (8 * k) = 2 ^ (8 * (k + 1)) from by rw [show 8 * (k + 1) = 8 + 8 * k by omega, Nat.pow_add]]
      exact h
    have := leV_le k (n / 256) h2
    simp only [le, leV, this]
    simp
    omega
theorem le_inj (k n m : Nat) (hn : n / 2 ^ (8 * k) = 0) (hm : m / 2 ^ (8 * k) = 0) (h : le n k = le m k) : n = m := by
  rw [← leV_le k n hn, ← leV_le k m hm, h]

theorem byStep_byte (r : BitVec 32) (c d : UInt8) (h : byStep r c = byStep r d) : c = d := by
  have h1 := rsn_inj 8 _ _ h
  have h2 : r ^^^ (r ^^^ c.toBitVec.setWidth 32) = r ^^^ (r ^^^ d.toBitVec.setWidth 32) := by rw [h1]
  rw [← BitVec.xor_assoc, ← BitVec.xor_assoc, BitVec.xor_self, BitVec.zero_xor, BitVec.zero_xor] at h2
  have h3 := congrArg (fun z : BitVec 32 => z.setWidth 8) h2
  simp at h3
  exact UInt8.toBitVec_inj.1 h3
theorem byAll_one (r : BitVec 32) (a z : List UInt8) (c d : UInt8) (h : byAll r (a ++ c :: z) = byAll r (a ++ d :: z)) : c = d := by
  rw [byAll_app, byAll_app] at h
  exact byStep_byte _ c d (byAll_inj z _ _ h)
theorem addS_set (l : List UInt8) (i : Nat) (hi : i < l.length) (c : UInt8) (h : addS 0#32 (l.set i c) = addS 0#32 l) : c = l[i] := by
  unfold addS at h
  have h1 := BitVec.not_inj.1 h
  have h2 : l = l.take i ++ l[i] :: l.drop (i + 1) := by rw [← List.drop_eq_getElem_cons hi, List.take_append_drop]
  have h3 : l.set i c = l.take i ++ c :: l.drop (i + 1) := by rw [List.set_eq_take_append_cons_drop, if_pos hi]
  rw [h3] at h1
  conv at h1 => rhs; rw [h2]
  exact byAll_one _ _ _ _ _ h1
theorem sumS_inj (a b : List UInt8) (h : sumS a = sumS b) : addS 0#32 a = addS 0#32 b :=
  BitVec.eq_of_toNat_eq (le_inj 4 _ _ (Nat.div_eq_of_lt (BitVec.isLt _)) (Nat.div_eq_of_lt (BitVec.isLt _)) h)


/-! ### which headers may be -/
theorem fits_iff (h : Hd) (hp : h.parent < 18446744073709551616) : Fits h.nums ↔ (un h.kind ≤ 255 ∧ un h.frm ≤ 255 ∧ un h.oper ≤ 255) ∧ (un h.view ≤ 72057594037927935 ∧ un h.opn ≤ 72057594037927935 ∧ un h.commit ≤ 72057594037927935 ∧ un h.client ≤ 72057594037927935) ∧
    (un h.session ≤ 72057594037927935 ∧ un h.request ≤ 72057594037927935 ∧ un h.a ≤ 72057594037927935 ∧ un h.b ≤ 72057594037927935) := by
  constructor
  · rintro ⟨_, hf⟩
    have hl := nums_len h
    exact ⟨⟨hf 1 (by omega), hf 2 (by omega), hf 3 (by omega)⟩, ⟨hf 7 (by omega), hf 8 (by omega), hf 9 (by omega), hf 10 (by omega)⟩, hf 11 (by omega), hf 12 (by omega), hf 13 (by omega), hf 14 (by omega)⟩
  · rintro ⟨⟨h1, h2, h3⟩, ⟨h7, h8, h9, h10⟩, h11, h12, h13, h14⟩
    refine ⟨rfl, fun k hk => ?_⟩
    match k, hk with
    | 0, _ => exact Nat.zero_le _
    | 1, _ => exact h1
    | 2, _ => exact h2
    | 3, _ => exact h3
    | 4, _ => exact Nat.zero_le _
    | 5, _ => exact Nat.zero_le _
    | 6, _ => exact Nat.le_of_lt_succ hp
    | 7, _ => exact h7
    | 8, _ => exact h8
    | 9, _ => exact h9
    | 10, _ => exact h10
    | 11, _ => exact h11
    | 12, _ => exact h12
    | 13, _ => exact h13
    | 14, _ => exact h14
    | k + 15, hk => exact absurd hk (by rw [nums_len]; omega)

theorem un_small {x : Int} (hx : In64 x) : un x ≤ 255 ↔ 0 ≤ x ∧ x ≤ 255 := by
  have h := un_eq x
  have h0 := un_lt x
  unfold In64 at hx
  omega
theorem un_fits {x : Int} (hx : In64 x) : un x ≤ 72057594037927935 ↔ 0 ≤ x ∧ x ≤ 72057594037927935 := by
  have h := un_eq x
  have h0 := un_lt x
  unfold In64 at hx
  omega
theorem right_fits (h : Hd) (hh : h.fits) : rightS h = decide (Fits h.nums) := by
  obtain ⟨⟨a1, a2, a3, a4, a5, a6⟩, ⟨b1, b2, b3, b4, b5⟩, hp⟩ := hh
  unfold rightS sm ft
  rw [Bool.eq_iff_iff, decide_eq_true_iff, fits_iff h hp, un_small a1, un_small a2, un_small a3, un_fits a4, un_fits a5, un_fits a6, un_fits b1, un_fits b2, un_fits b3, un_fits b4, un_fits b5]
  simp only [Bool.and_eq_true, decide_eq_true_eq]
  constructor
  · rintro ⟨⟨⟨⟨⟨⟨⟨⟨⟨⟨c1, c2⟩, c3⟩, c4⟩, c5⟩, c6⟩, c7⟩, c8⟩, c9⟩, c10⟩, c11⟩
    exact ⟨⟨c1, c2, c3⟩, ⟨c4, c5, c6, c7⟩, c8, c9, c10, c11⟩
  · rintro ⟨⟨c1, c2, c3⟩, ⟨c4, c5, c6, c7⟩, c8, c9, c10, c11⟩
    exact ⟨⟨⟨⟨⟨⟨⟨⟨⟨⟨c1, c2⟩, c3⟩, c4⟩, c5⟩, c6⟩, c7⟩, c8⟩, c9⟩, c10⟩, c11⟩

/-! ### the bytes of one place -/
theorem fl_part (l : List Nat) : ∀ m k, k < m → ∃ t, fl l m = fl l k ++ (le (l.getD k 0) (sz k) ++ t)
  | 0, _, h => by omega
  | m + 1, k, h => by
    by_cases e : k = m
    · subst e
      exact ⟨[], by simp [fl]⟩
    · obtain ⟨t, ht⟩ := fl_part l m k (by omega)
      exact ⟨t ++ le (l.getD m 0) (sz m), by rw [fl, ht]; simp⟩
theorem place (l : List Nat) (body : List UInt8) (k : Nat) (hk : k < 15) : ((headB l ++ body).drop (4 + off k)).take (sz k) = le (l.getD k 0) (sz k) := by
  obtain ⟨t, ht⟩ := fl_part l 15 k hk
  have h4 := sumS_len (restS l)
  have hf := fl_len l k
  have e : headB l ++ body = (sumS (restS l) ++ fl l k) ++ (le (l.getD k 0) (sz k) ++ (t ++ List.replicate 40 0 ++ body)) := by
    have e1 : restS l = fl l k ++ (le (l.getD k 0) (sz k) ++ (t ++ List.replicate 40 0)) := by
      rw [restS, ht]
      simp only [List.append_assoc]
    unfold headB
    rw [show sumS (restS l) ++ restS l = sumS (restS l) ++ (fl l k ++ (le (l.getD k 0) (sz k) ++ (t ++ List.replicate 40 0))) from congrArg (fun z => sumS (restS l) ++ z) e1]
    simp only [List.append_assoc]
  have hl : (sumS (restS l) ++ fl l k).length = 4 + off k := by rw [List.length_append, h4, hf]
  rw [e, ← hl, List.drop_left, List.take_append_of_le_length (by rw [le_len]; exact Nat.le_refl _), List.take_of_length_le (by rw [le_len]; exact Nat.le_refl _)]
theorem tk_head (l : List Nat) (hf : Fits l) (k : Nat) (hk : k < 15) : tk (headB l) k = l.getD k 0 := by
  have h := place l [] k hk
  rw [List.append_nil] at h
  have hkl : k < l.length := by rw [hf.1]; exact hk
  unfold tk
  rw [h]
  refine leV_le _ _ (Nat.div_eq_of_lt (Nat.lt_of_le_of_lt ?_ (mo_lt k hk)))
  have := hf.2 k hkl
  simpa [hkl] using this
theorem takeN_head (l : List Nat) (hf : Fits l) : takeN (headB l) = l := by
  apply List.ext_getElem
  · rw [hf.1]; simp [takeN]
  · intro k h1 h2
    have hk : k < 15 := by rw [← hf.1]; exact h2
    have := tk_head l hf k hk
    simp only [takeN, List.getElem_map, List.getElem_range, this]
    simp [h2]

theorem sg_un {x : Int} (hx : In64 x) : sg (un x) = x := by
  have h := un_eq x
  unfold In64 at hx
  unfold sg wrap64
  omega
theorem hdOf_full (h : Hd) (body : List UInt8) (hh : h.fits) : hdOf (full h body) = h := by
  obtain ⟨⟨a1, a2, a3, a4, a5, a6⟩, ⟨b1, b2, b3, b4, b5⟩, hp⟩ := hh
  obtain ⟨kind, frm, oper, view, opn, commit, client, session, request, a, b, parent⟩ := h
  show (⟨sg (un kind), sg (un frm), sg (un oper), sg (un view), sg (un opn), sg (un commit), sg (un client), sg (un session), sg (un request), sg (un a), sg (un b), parent⟩ : Hd) = _
  rw [sg_un a1, sg_un a2, sg_un a3, sg_un a4, sg_un a5, sg_un a6, sg_un b1, sg_un b2, sg_un b3, sg_un b4, sg_un b5]

/-! ### packed and read again -/
/-- what is packed is so -/
theorem packS_ok {h : Hd} {body s : List UInt8} (e : packS h body = (s, 0)) : Fits h.nums ∧ body.length ≤ 3968 ∧ s = headB (full h body) ++ body := by
  unfold packS at e
  split at e
  · simp at e
  · rename_i hf
    split at e
    · simp at e
    · rename_i hl
      exact ⟨by simpa using hf, by omega, (Prod.mk.inj e).1.symm⟩
theorem packS_yes {h : Hd} {body : List UInt8} (hf : Fits h.nums) (hl : body.length ≤ 3968) : packS h body = (headB (full h body) ++ body, 0) := by
  unfold packS
  rw [if_neg (by simpa using hf), if_neg (by omega)]
theorem unpack_pack {h : Hd} {body s : List UInt8} (hh : h.fits) (e : packS h body = (s, 0)) : unpackS s = (h, body, 0) := by
  obtain ⟨hf, hl, rfl⟩ := packS_ok e
  have h128 := headB_len (full h body)
  have e1 : (headB (full h body) ++ body).take 128 = headB (full h body) := by rw [← h128, List.take_left]
  have e2 : (headB (full h body) ++ body).drop 128 = body := by rw [← h128, List.drop_left]
  have hff := full_fits h body hf hl
  unfold unpackS
  rw [if_neg (by rw [List.length_append, h128]; omega), e1, e2, takeN_head _ hff, hdOf_full h body hh, if_pos e]
theorem pack_inj {h g : Hd} {a b s : List UInt8} (hh : h.fits) (hg : g.fits) (e1 : packS h a = (s, 0)) (e2 : packS g b = (s, 0)) : h = g ∧ a = b := by
  have h1 := unpack_pack hh e1
  rw [unpack_pack hg e2] at h1
  simp only [Prod.mk.injEq, and_true] at h1
  exact ⟨h1.1.symm, h1.2.symm⟩

/-! ### turned, cut, grown -/
/-- what each packed text has -/
def Chk (s : List UInt8) : Prop := 128 ≤ s.length ∧ s.length ≤ 4096 ∧ s.take 4 = sumS ((s.drop 4).take 124) ∧ (s.drop 4).take 4 = sumS (s.drop 128) ∧ (s.drop 12).take 4 = le (s.length - 128) 4
theorem chk_pack {h : Hd} {body s : List UInt8} (e : packS h body = (s, 0)) : Chk s := by
  obtain ⟨hf, hl, rfl⟩ := packS_ok e
  have h128 := headB_len (full h body)
  have h4 := sumS_len (restS (full h body))
  have hr := restS_len (full h body)
  have hlen : (headB (full h body) ++ body).length = 128 + body.length := by rw [List.length_append, h128]
  have e2 : (headB (full h body) ++ body).drop 128 = body := by rw [← h128, List.drop_left]
  refine ⟨by omega, by omega, ?_, ?_, ?_⟩
  · unfold headB
    rw [List.append_assoc]
    have d : (sumS (restS (full h body)) ++ (restS (full h body) ++ body)).drop 4 = restS (full h body) ++ body := by rw [← h4, List.drop_left]
    rw [d]
    have t1 : (sumS (restS (full h body)) ++ (restS (full h body) ++ body)).take 4 = sumS (restS (full h body)) := by rw [← h4, List.take_left]
    have t2 : (restS (full h body) ++ body).take 124 = restS (full h body) := by rw [← hr, List.take_left]
    rw [t1, t2]
  · have p := place (full h body) body 0 (by omega)
    rw [e2]
    exact p
  · have p := place (full h body) body 5 (by omega)
    rw [hlen, show 128 + body.length - 128 = body.length by omega]
    exact p
theorem unpack_not {s : List UInt8} (h : ¬ Chk s) : unpackS s = (hd0, [], 4) := by
  unfold unpackS
  split
  · rfl
  · split
    · rename_i e
      exact absurd (chk_pack e) h
    · rfl

theorem turned_not (a : List UInt8) (i : Nat) (c : UInt8) (ha : Chk a) (hi : i < a.length) (hc : a[i]? ≠ some c) : ¬ Chk (a.set i c) := by
  rintro ⟨_, _, g1, g2, g3⟩
  obtain ⟨h1, h2, f1, f2, f3⟩ := ha
  by_cases c1 : i < 4
  · have e1 : (a.set i c).drop 4 = a.drop 4 := by rw [List.drop_set_of_lt c1]
    rw [e1, ← f1] at g1
    have g := congrArg (fun x : List UInt8 => x[i]?) g1
    simp only [List.getElem?_take] at g
    rw [if_pos c1, if_pos c1, List.getElem?_set_self hi] at g
    exact hc g.symm
  · by_cases c2 : i < 128
    · have e1 : (a.set i c).take 4 = a.take 4 := by rw [List.take_set, List.set_eq_of_length_le (by simp; omega)]
      have e2 : ((a.set i c).drop 4).take 124 = ((a.drop 4).take 124).set (i - 4) c := by
        rw [List.drop_set, if_neg c1, List.take_set]
      rw [e1, e2, f1] at g1
      have hlt : i - 4 < ((a.drop 4).take 124).length := by simp; omega
      have := addS_set ((a.drop 4).take 124) (i - 4) hlt c (sumS_inj _ _ g1.symm)
      apply hc
      have hj : 4 + (i - 4) = i := by omega
      have h3 : ((a.drop 4).take 124)[i - 4]? = a[i]? := by rw [List.getElem?_take, if_pos (by omega), List.getElem?_drop, hj]
      rw [← h3, List.getElem?_eq_getElem hlt, this]
    · have e1 : ((a.set i c).drop 4).take 4 = (a.drop 4).take 4 := by
        rw [List.drop_set, if_neg c1, List.take_set, List.set_eq_of_length_le (by simp; omega)]
      have e2 : (a.set i c).drop 128 = (a.drop 128).set (i - 128) c := by rw [List.drop_set, if_neg c2]
      rw [e1, e2, f2] at g2
      have hlt : i - 128 < (a.drop 128).length := by simp; omega
      have := addS_set (a.drop 128) (i - 128) hlt c (sumS_inj _ _ g2.symm)
      apply hc
      have hj : 128 + (i - 128) = i := by omega
      have h3 : (a.drop 128)[i - 128]? = a[i]? := by rw [List.getElem?_drop, hj]
      rw [← h3, List.getElem?_eq_getElem hlt, this]
theorem size_le (n m : Nat) (hn : n ≤ 4096) (hm : m ≤ 4096) (h : le n 4 = le m 4) : n = m := le_inj 4 n m (Nat.div_eq_of_lt (by omega)) (Nat.div_eq_of_lt (by omega)) h
theorem cut_not (a : List UInt8) (ha : Chk a) : ¬ Chk (a.take (a.length - 1)) := by
  rintro ⟨g0, _, _, _, g3⟩
  obtain ⟨h1, h2, _, _, f3⟩ := ha
  rw [List.length_take] at g0 g3
  have e : ((a.take (a.length - 1)).drop 12).take 4 = (a.drop 12).take 4 := by
    rw [List.drop_take, List.take_take]
    congr 1
    omega
  rw [e, f3] at g3
  have := size_le _ _ (by omega) (by omega) g3
  omega
theorem more_not (a : List UInt8) (c : UInt8) (ha : Chk a) : ¬ Chk (a ++ [c]) := by
  rintro ⟨g0, g1, _, _, g3⟩
  obtain ⟨h1, h2, _, _, f3⟩ := ha
  have e : ((a ++ [c]).drop 12).take 4 = (a.drop 12).take 4 := by
    rw [List.drop_append_of_le_length (by omega), List.take_append_of_le_length (by simp; omega)]
  rw [e, f3] at g3
  rw [List.length_append, List.length_singleton] at g3 g1
  have := size_le _ _ (by omega) (by omega) g3
  omega
end Go.Proofs.YtknalgobndbngaaDoor
