/-
  Plain words on sealed sectors: what was sealed is opened, what was torn or turned is not.
-/
import Derived.Test.YtkfgbjmadfnmkaaOpen
namespace Go.Proofs.Ytkfgbjmadfnmkaa

theorem leV_le : ∀ (k n : Nat), n / 2 ^ (8 * k) = 0 → leV (le n k) = n
  | 0, n, h => by simp at h; subst h; rfl
  | k + 1, n, h => by
    have h2 : n / 256 / 2 ^ (8 * k) = 0 := by
      rw [Nat.div_div_eq_div_mul, show 256 * 2 ^ (8 * k) = 2 ^ (8 * (k + 1)) from by rw [show 8 * (k + 1) = 8 + 8 * k by omega, Nat.pow_add]]
      exact h
    have := leV_le k (n / 256) h2
    simp only [le, leV, this]
    simp
    omega
theorem le_inj (k n m : Nat) (hn : n / 2 ^ (8 * k) = 0) (hm : m / 2 ^ (8 * k) = 0) (h : le n k = le m k) : n = m := by
  rw [← leV_le k n hn, ← leV_le k m hm, h]

theorem byStep_byte (r : BitVec 32) (c d : UInt8) (h : byStep r c = byStep r d) : c = d := by
  have h1 := rsn_inj 8 _ _ h
  have h2 : r ^^^ (r ^^^ c.toBitVec.setWidth 32) = r ^^^ (r ^^^ d.toBitVec.setWidth 32) := by rw [h1]
  rw [← BitVec.xor_assoc, ← BitVec.xor_assoc, BitVec.xor_self, BitVec.zero_xor, BitVec.zero_xor] at h2
  have h3 := congrArg (fun z : BitVec 32 => z.setWidth 8) h2
  simp at h3
  exact UInt8.toBitVec_inj.1 h3
theorem byAll_one (r : BitVec 32) (a z : List UInt8) (c d : UInt8) (h : byAll r (a ++ c :: z) = byAll r (a ++ d :: z)) : c = d := by
  rw [byAll_app, byAll_app] at h
  exact byStep_byte _ c d (byAll_inj z _ _ h)
theorem addS_set (l : List UInt8) (i : Nat) (hi : i < l.length) (c : UInt8) (h : addS 0#32 (l.set i c) = addS 0#32 l) : c = l[i] := by
  unfold addS at h
  have h1 := BitVec.not_inj.1 h
  have h2 : l = l.take i ++ l[i] :: l.drop (i + 1) := by rw [← List.drop_eq_getElem_cons hi, List.take_append_drop]
  have h3 : l.set i c = l.take i ++ c :: l.drop (i + 1) := by rw [List.set_eq_take_append_cons_drop, if_pos hi]
  rw [h3] at h1
  conv at h1 => rhs; rw [h2]
  exact byAll_one _ _ _ _ _ h1
theorem sumS_inj (a b : List UInt8) (h : sumS a = sumS b) : addS 0#32 a = addS 0#32 b :=
  BitVec.eq_of_toNat_eq (le_inj 4 _ _ (Nat.div_eq_of_lt (BitVec.isLt _)) (Nat.div_eq_of_lt (BitVec.isLt _)) h)

/-- what each sealed sector has -/
def Good (l : List UInt8) : Prop := l.length = 384 ∧ (l.drop 379).take 4 = sumS (l.take 379) ∧ l[383]? = l[0]?

theorem lay_take (g : UInt8) (s : List UInt8) (h : s.length ≤ 376) : (layS g s).take 379 = headS g s := by
  have := headS_len g s h
  unfold layS
  rw [List.append_assoc, List.take_append_of_le_length (by omega), List.take_of_length_le (by omega)]
theorem lay_drop (g : UInt8) (s : List UInt8) (h : s.length ≤ 376) : (layS g s).drop 379 = sumS (headS g s) ++ [g] := by
  have := headS_len g s h
  unfold layS
  rw [List.append_assoc, ← this, List.drop_left]
theorem lay_first (g : UInt8) (s : List UInt8) : (layS g s)[0]? = some g := by simp [layS, headS]
theorem lay_last (g : UInt8) (s : List UInt8) (h : s.length ≤ 376) : (layS g s)[383]? = some g := by
  have h1 := headS_len g s h
  have h2 := sumS_len (headS g s)
  unfold layS
  rw [List.getElem?_append_right (by simp [h1, h2])]
  simp [h1, h2]
theorem lay_good (g : UInt8) (s : List UInt8) (h : s.length ≤ 376) : Good (layS g s) := by
  refine ⟨layS_len g s h, ?_, by rw [lay_first, lay_last g s h]⟩
  rw [lay_drop g s h, lay_take g s h, List.take_append_of_le_length (by rw [sumS_len]; omega), List.take_of_length_le (by rw [sumS_len]; omega)]
theorem open_not (l : List UInt8) (h : ¬ Good l) : openS l = ([], false) := by
  unfold openS
  rw [if_neg]
  rintro ⟨h1, h2, h3⟩
  apply h
  rw [← h3]
  exact lay_good _ _ (tt_len l h2)
theorem open_lay (g : UInt8) (s : List UInt8) (h : s.length ≤ 376) : openS (layS g s) = (s, true) := by
  have hl := layS_len g s h
  have h0 : (layS g s).getD 0 0 = g := by rw [List.getD, lay_first]; rfl
  have hsp : layS g s = [g] ++ (le s.length 2 ++ (s ++ (List.replicate (376 - s.length) 0 ++ (sumS (headS g s) ++ [g])))) := by simp [layS, headS]
  have ht : takeS (layS g s) 1 2 = (s.length, 0) := by
    unfold takeS
    rw [if_neg (by omega), if_neg (by rw [hl]; omega)]
    congr 1
    show leV (((layS g s).drop 1).take 2) = s.length
    rw [hsp]
    show leV ((le s.length 2 ++ (s ++ (List.replicate (376 - s.length) 0 ++ (sumS (headS g s) ++ [g])))).take 2) = s.length
    rw [List.take_append_of_le_length (by rw [le_len]; omega), List.take_of_length_le (by rw [le_len]; omega)]
    exact leV_le 2 _ (Nat.div_eq_of_lt (by omega))
  have hd : ((layS g s).drop 3).take s.length = s := by
    rw [hsp]
    have h2 : (le s.length 2).length = 2 := le_len _ _
    show ((le s.length 2 ++ (s ++ (List.replicate (376 - s.length) 0 ++ (sumS (headS g s) ++ [g])))).drop 2).take s.length = s
    generalize le s.length 2 = p at h2
    rw [← h2, List.drop_left, List.take_left]
  have htt : ttS (layS g s) 1 376 = (s, 1 + 2 + (s.length : Int), 0) := by
    unfold ttS
    rw [ht]
    rw [if_neg (by simp), if_neg (by simp; omega)]
    unfold ttN
    show (if (layS g s).length < 1 + 2 + s.length then _ else _) = _
    rw [if_neg (by omega)]
    show (((layS g s).drop 3).take s.length, _) = _
    rw [hd]
    rfl
  unfold openS
  rw [htt, h0, if_pos ⟨hl, rfl, rfl⟩]

theorem tears_not (g : UInt8) (s old : List UInt8) (cut : Nat) (h : s.length ≤ 376) (hg : old.getD 383 0 ≠ g) (h0 : 0 < cut) (h1 : cut < 384) :
    openS ((layS g s).take cut ++ old.drop cut) = ([], false) := by
  apply open_not
  rintro ⟨_, _, h3⟩
  have hl := layS_len g s h
  rw [List.getElem?_append_right (by simp; omega), List.getElem?_append_left (by simp; omega), List.getElem?_take, if_pos h0, lay_first, List.getElem?_drop] at h3
  have e : cut + (383 - ((layS g s).take cut).length) = 383 := by simp; omega
  rw [e] at h3
  exact hg (by rw [List.getD, h3]; rfl)
theorem turns_not (a : List UInt8) (i : Nat) (c : UInt8) (ha : Good a) (hi : i < 384) (hc : a[i]? ≠ some c) : openS (a.set i c) = ([], false) := by
  apply open_not
  rintro ⟨g1, g2, g3⟩
  obtain ⟨a1, a2, a3⟩ := ha
  by_cases h0 : i = 0
  · subst h0
    rw [List.getElem?_set_ne (by omega), List.getElem?_set_self (by omega), a3] at g3
    exact hc g3
  · by_cases h1 : i = 383
    · subst h1
      rw [List.getElem?_set_self (by omega), List.getElem?_set_ne (by omega), ← a3] at g3
      exact hc g3.symm
    · by_cases h2 : i < 379
      · rw [List.drop_set_of_lt h2, a2, List.take_set] at g2
        have := addS_set (a.take 379) i (by simp; omega) c (sumS_inj _ _ g2.symm)
        apply hc
        rw [this, List.getElem_take, List.getElem?_eq_getElem (by omega)]
      · have e : (a.set i c).take 379 = a.take 379 := by
          rw [List.take_set, List.set_eq_of_length_le (by simp; omega)]
        rw [e, ← a2] at g2
        have g4 := congrArg (fun x : List UInt8 => x[i - 379]?) g2
        simp only [List.getElem?_take, List.getElem?_drop] at g4
        rw [if_pos (by omega), if_pos (by omega), show 379 + (i - 379) = i by omega, List.getElem?_set_self (by omega)] at g4
        exact hc g4.symm
end Go.Proofs.Ytkfgbjmadfnmkaa
