/-
  The walk of the document's take (package comptorref05); a header out of its bytes.
-/
import Derived.Test.YtneacphibklbgaaDoorM03
import Derived.Test.YtneacphibklbgaaDoorM11
import Derived.Test.YtneacphibklbgaaDoorM08
namespace Go.Proofs.YtneacphibklbgaaDoor
open Go.RowKit
set_option maxRecDepth 10000

/-- eight bytes at a place as a number -/
def n8 (s : List UInt8) (a : Nat) : Nat := leV ((s.drop a).take 8)
theorem tk_take (s : List UInt8) (k : Nat) (hk : k < 15) : tk (s.take 128) k = tk s k := by
  have h1 := sz_lo k hk
  have h2 := off_more k hk
  unfold tk
  rw [List.drop_take, List.take_take, Nat.min_eq_left (by omega)]
theorem tk_n8 (s : List UInt8) (k a : Nat) (h1 : 4 + off k = a) (h2 : sz k = 8) : tk s k = n8 s a := by
  unfold tk n8
  rw [h1, h2]
theorem tk_one (s : List UInt8) (k a : Nat) (h1 : 4 + off k = a) (h2 : sz k = 1) (h : a < s.length) : tk s k = s[a].toNat := by
  unfold tk
  rw [h1, h2, List.drop_eq_getElem_cons h, List.take_succ_cons, List.take_zero]
  simp [leV]
/-- the header in the first bytes -/
def hdS (s : List UInt8) : Hd := hdOf (takeN (s.take 128))
theorem takeN_get (s : List UInt8) (k : Nat) (hk : k < 15) : (takeN s).getD k 0 = tk s k := by
  unfold takeN
  rw [List.getD, List.getElem?_map, List.getElem?_range hk]
  rfl
theorem hdS_eq (s : List UInt8) (h : 128 ≤ s.length) : hdS s = ⟨sg (s[8]'(by omega)).toNat, sg (s[9]'(by omega)).toNat, sg (s[10]'(by omega)).toNat, sg (n8 s 24), sg (n8 s 32), sg (n8 s 40), sg (n8 s 48), sg (n8 s 56), sg (n8 s 64), sg (n8 s 72), sg (n8 s 80), n8 s 16⟩ := by
  unfold hdS hdOf
  simp only [takeN_get _ _ (show 1 < 15 by decide), takeN_get _ _ (show 2 < 15 by decide), takeN_get _ _ (show 3 < 15 by decide), takeN_get _ _ (show 6 < 15 by decide), takeN_get _ _ (show 7 < 15 by decide), takeN_get _ _ (show 8 < 15 by decide), takeN_get _ _ (show 9 < 15 by decide), takeN_get _ _ (show 10 < 15 by decide), takeN_get _ _ (show 11 < 15 by decide), takeN_get _ _ (show 12 < 15 by decide), takeN_get _ _ (show 13 < 15 by decide), takeN_get _ _ (show 14 < 15 by decide)]
  rw [tk_take s 1 (by decide), tk_take s 2 (by decide), tk_take s 3 (by decide), tk_take s 6 (by decide), tk_take s 7 (by decide), tk_take s 8 (by decide), tk_take s 9 (by decide), tk_take s 10 (by decide), tk_take s 11 (by decide), tk_take s 12 (by decide), tk_take s 13 (by decide), tk_take s 14 (by decide)]
  rw [tk_one s 1 8 rfl rfl (by omega), tk_one s 2 9 rfl rfl (by omega), tk_one s 3 10 rfl rfl (by omega), tk_n8 s 6 16 rfl rfl, tk_n8 s 7 24 rfl rfl, tk_n8 s 8 32 rfl rfl, tk_n8 s 9 40 rfl rfl, tk_n8 s 10 48 rfl rfl, tk_n8 s 11 56 rfl rfl, tk_n8 s 12 64 rfl rfl, tk_n8 s 13 72 rfl rfl, tk_n8 s 14 80 rfl rfl]
theorem n8_lt (s : List UInt8) (a : Nat) : n8 s a < 18446744073709551616 := by
  have h := leV_lt ((s.drop a).take 8)
  have h2 : ((s.drop a).take 8).length ≤ 8 := by rw [List.length_take]; omega
  have h3 : 2 ^ (8 * ((s.drop a).take 8).length) ≤ 2 ^ 64 := Nat.pow_le_pow_right (by omega) (by omega)
  exact Nat.lt_of_lt_of_le h h3
theorem sg_in (n : Nat) : In64 (sg n) := by
  unfold In64 sg wrap64
  omega
theorem hdS_fits (s : List UInt8) (h : 128 ≤ s.length) : (hdS s).fits := by
  rw [hdS_eq s h]
  exact ⟨⟨sg_in _, sg_in _, sg_in _, sg_in _, sg_in _, sg_in _⟩, ⟨sg_in _, sg_in _, sg_in _, sg_in _, sg_in _⟩, n8_lt _ _⟩
end Go.Proofs.YtneacphibklbgaaDoor
