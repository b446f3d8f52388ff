/-
  The walk of DiskRots, where a sector rots.
-/
import Derived.Test.YtogchfpecbmocaaM11
import Derived.Test.YtogchfpecbmocaaM01
import Derived.Deep.CutRange
namespace Go.Proofs.Ytogchfpecbmocaa
open Go.RowKit

theorem Fr.of_below {w w' : World} (h : Below w.heap.size w w') : Fr w w' [] := ⟨h.os, h.tape, h.output, h.size, fun k hk _ => h.block k hk⟩
/-- the bytes, one turned -/
def turnL (l : List UInt8) (a m : Nat) : List UInt8 := l.set a (l.getD a 0 ^^^ UInt8.ofNat m)
theorem turnL_len (l : List UInt8) (a m : Nat) : (turnL l a m).length = l.length := by simp [turnL]
def rk (k : Nat) (c o t : List UInt8) (on : Bool) : Sp := ⟨[full c, full c, sec0].set k ⟨t, true⟩, [⟨2, o⟩], on, 0, 4⟩
theorem two_cases {k : Nat} (hk : k ≤ 1) : k = 0 ∨ k = 1 := by omega
section
variable {c o t : List UInt8} {on : Bool} {a m k : Nat} (hk : k ≤ 1) (h : a < 384 ∧ 1 ≤ m ∧ m ≤ 255)
theorem rk_is (i : Int) (h1 : 0 ≤ i) (h2 : i ≤ 1) : (rk k c o t on).is i := ⟨h1, by simp [rk]; omega⟩
include hk h in
theorem rk_0 (ht : turnL c a m = t) : (ro4 c o on).rot k a m = (rk k c o t on, 0) := by
  subst ht
  unfold Sp.rot
  rcases two_cases hk with rfl | rfl
  · rw [if_neg (by rintro (h1 | h1); exact h1 ⟨by omega, by simp [ro4]⟩; omega), if_neg (by simp [ro4, newest]), if_neg (by simp [ro4, full])]
    rfl
  · rw [if_neg (by rintro (h1 | h1); exact h1 ⟨by omega, by simp [ro4]⟩; omega), if_neg (by simp [ro4, newest]), if_neg (by simp [ro4, full])]
    rfl
include hk h in
theorem rk_0t : (rk k c o t on).rot k a m = (rk k c o t on, 7) := by
  unfold Sp.rot
  rcases two_cases hk with rfl | rfl
  · rw [if_neg (by rintro (h1 | h1); exact h1 ⟨by omega, by simp [rk]⟩; omega), if_neg (by simp [rk, newest]), if_pos (by simp [rk])]
  · rw [if_neg (by rintro (h1 | h1); exact h1 ⟨by omega, by simp [rk]⟩; omega), if_neg (by simp [rk, newest]), if_pos (by simp [rk])]
include hk in
theorem rk_0a : (if (rk k c o t on).is (k : Int) then ((rk k c o t on).secs.getD (k : Int).toNat ⟨[], false⟩).lasts else []) = t := by
  rw [if_pos (rk_is _ (by omega) (by omega))]
  rcases two_cases hk with rfl | rfl <;> rfl
include hk in
theorem rk_0b {j : Int} (hj : 1 - (k : Int) = j) : (if (rk k c o t on).is j then ((rk k c o t on).secs.getD j.toNat ⟨[], false⟩).lasts else []) = c := by
  subst hj
  rw [if_pos (rk_is _ (by omega) (by omega))]
  rcases two_cases hk with rfl | rfl <;> rfl
include hk in
theorem rk_0m : (decide ((rk k c o t on).is (k : Int)) && ((rk k c o t on).secs.getD (k : Int).toNat ⟨[], false⟩).marked) = true := by
  rw [decide_eq_true (rk_is _ (by omega) (by omega))]
  rcases two_cases hk with rfl | rfl <;> rfl
include hk in
theorem rk_0n {j : Int} (hj : 1 - (k : Int) = j) : (decide ((rk k c o t on).is j) && ((rk k c o t on).secs.getD j.toNat ⟨[], false⟩).marked) = false := by
  subst hj
  rw [decide_eq_true (rk_is _ (by omega) (by omega))]
  rcases two_cases hk with rfl | rfl <;> rfl
end

/-- the facts of the bytes that the law turns itself -/
theorem turn_facts {w2 w3 : World} {g a m q : Nat} {l : List UInt8} (x : UInt8) (hl : l.length = 384) (ha : a < 384) (hm : m ≤ 255) (hx : l.getD a 0 = x) (hg : g = w2.heap.size) (hr : FRow w3 g 5 (bvs l ++ List.replicate q (.int .u8 0))) (hb : Below w2.heap.size w2 w3) :
    w3.cell? ⟨g, a, none⟩ = some (.int .u8 (x.toNat : Int)) ∧ w3.frozen? ⟨g, a, none⟩ = false ∧
      Fr w2 (w3.setCell ⟨g, a, none⟩ (.int .u8 (bits .xor .u8 (x.toNat : Int) (m : Int)))) [] ∧
      ∀ n c, (convert 69 9 (.slice (some ⟨g, 0, none⟩) 384 c)).run Try.prog ((w3.setCell ⟨g, a, none⟩ (.int .u8 (bits .xor .u8 (x.toNat : Int) (m : Int)))).drewN n) = .ok (.string ⟨(turnL l a m).toArray⟩) ((w3.setCell ⟨g, a, none⟩ (.int .u8 (bits .xor .u8 (x.toNat : Int) (m : Int)))).drewN n) := by
  have hax : l[a]? = some x := by
    rw [List.getElem?_eq_getElem (by omega)]
    simp [List.getD, List.getElem?_eq_getElem (show a < l.length by omega)] at hx
    rw [hx]
  have e1 : (bvs l ++ List.replicate q (Value.int .u8 0))[a]? = some (.int .u8 (x.toNat : Int)) := by
    rw [List.getElem?_append_left (by rw [bvs_len]; omega), bvs, List.getElem?_map, hax]
    rfl
  have ew : Value.int .u8 (bits .xor .u8 (x.toNat : Int) (m : Int)) = bv (x ^^^ UInt8.ofNat m) := by rw [xor_byte x m hm]; rfl
  refine ⟨(hr.cell a).trans e1, hr.frozen a (by simp [bvs_len]; omega), (Fr.of_below hb).setCell (p := ⟨g, a, none⟩) (.inr (by simp [hg])) _, ?_⟩
  intro n c
  have h4 := hr.set_ a (bv (x ^^^ UInt8.ofNat m))
  have e2 : (bvs l ++ List.replicate q (Value.int .u8 0)).set a (bv (x ^^^ UInt8.ofNat m)) = bvs (turnL l a m) ++ List.replicate q (Value.int .u8 0) := by
    rw [List.set_append_left _ _ (by rw [bvs_len]; omega), turnL, hx]
    simp [bvs, List.map_set]
  rw [e2] at h4
  rw [ew]
  have h5 := (h4.rd (B := (w3.setCell ⟨g, a, none⟩ (bv (x ^^^ UInt8.ofNat m))).heap.size) h4.lt).take 384
  have e3 : (bvs (turnL l a m) ++ List.replicate q (Value.int .u8 0)).take 384 = bvs (turnL l a m) := by
    rw [List.take_append_of_le_length (by rw [bvs_len, turnL_len]; omega), List.take_of_length_le (by rw [bvs_len, turnL_len]; omega)]
  rw [e3] at h5
  exact run_str _ 69 5 Try.underlying69 Try.underlying5 9 Try.underlying9 _ _ (turnL l a m) 384 c (by rw [turnL_len]; omega) h5
end Go.Proofs.Ytogchfpecbmocaa
