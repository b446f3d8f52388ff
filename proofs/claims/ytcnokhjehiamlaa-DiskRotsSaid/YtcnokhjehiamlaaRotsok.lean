/-
  The walk of DiskRots, where a sector rots.
-/
import Derived.Test.YtcnokhjehiamlaaRots
import Derived.Test.YtcnokhjehiamlaaPreb
import Derived.Deep.CutRange
namespace Go.Proofs.Ytcnokhjehiamlaa
open Go.RowKit

theorem Fr.of_below {w w' : World} (h : Below w.heap.size w w') : Fr w w' [] := ⟨h.os, h.tape, h.output, h.size, fun k hk _ => h.block k hk⟩
/-- the bytes, one turned -/
def turnL (l : List UInt8) (a m : Nat) : List UInt8 := l.set a (l.getD a 0 ^^^ UInt8.ofNat m)
theorem turnL_len (l : List UInt8) (a m : Nat) : (turnL l a m).length = l.length := by simp [turnL]
def rk (k : Nat) (c o t : List UInt8) (on : Bool) : Sp := ⟨[full c, full c, sec0].set k ⟨t, true⟩, [⟨2, o⟩], on, 0, 4⟩
theorem two_cases {k : Nat} (hk : k ≤ 1) : k = 0 ∨ k = 1 := by omega
section
variable {c o t : List UInt8} {on : Bool} {a m k : Nat} (hk : k ≤ 1) (h : a < 384 ∧ 1 ≤ m ∧ m ≤ 255)
theorem rk_is (i : Int) (h1 : 0 ≤ i) (h2 : i ≤ 1) : (rk k c o t on).is i := ⟨h1, by simp [rk]; omega⟩
include hk h in
theorem rk_0 (ht : turnL c a m = t) : (ro4 c o on).rot k a m = (rk k c o t on, 0) := by
  subst ht
  unfold Sp.rot
  rcases two_cases hk with rfl | rfl
  · rw [if_neg (by rintro (h1 | h1); exact h1 ⟨by omega, by simp [ro4]⟩; omega), if_neg (by simp [ro4, newest]), if_neg (by simp [ro4, full])]
    rfl
  · rw [if_neg (by rintro (h1 | h1); exact h1 ⟨by omega, by simp [ro4]⟩; omega), if_neg (by simp [ro4, newest]), if_neg (by simp [ro4, full])]
    rfl
include hk h in
theorem rk_0t : (rk k c o t on).rot k a m = (rk k c o t on, 7) := by
  unfold Sp.rot
  rcases two_cases hk with rfl | rfl
  · rw [if_neg (by rintro (h1 | h1); exact h1 ⟨by omega, by simp [rk]⟩; omega), if_neg (by simp [rk, newest]), if_pos (by simp [rk])]
  · rw [if_neg (by rintro (h1 | h1); exact h1 ⟨by omega, by simp [rk]⟩; omega), if_neg (by simp [rk, newest]), if_pos (by simp [rk])]
include hk in
theorem rk_0a : (if (rk k c o t on).is (k : Int) then ((rk k c o t on).secs.getD (k : Int).toNat ⟨[], false⟩).lasts else []) = t := by
  rw [if_pos (rk_is _ (by omega) (by omega))]
  rcases two_cases hk with rfl | rfl <;> rfl
include hk in
theorem rk_0b {j : Int} (hj : 1 - (k : Int) = j) : (if (rk k c o t on).is j then ((rk k c o t on).secs.getD j.toNat ⟨[], false⟩).lasts else []) = c := by
  subst hj
  rw [if_pos (rk_is _ (by omega) (by omega))]
  rcases two_cases hk with rfl | rfl <;> rfl
include hk in
theorem rk_0m : (decide ((rk k c o t on).is (k : Int)) && ((rk k c o t on).secs.getD (k : Int).toNat ⟨[], false⟩).marked) = true := by
  rw [decide_eq_true (rk_is _ (by omega) (by omega))]
  rcases two_cases hk with rfl | rfl <;> rfl
include hk in
theorem rk_0n {j : Int} (hj : 1 - (k : Int) = j) : (decide ((rk k c o t on).is j) && ((rk k c o t on).secs.getD j.toNat ⟨[], false⟩).marked) = false := by
  subst hj
  rw [decide_eq_true (rk_is _ (by omega) (by omega))]
  rcases two_cases hk with rfl | rfl <;> rfl
end

/-- the facts of the bytes that the law turns itself -/
theorem turn_facts {w2 w3 : World} {g a m q : Nat} {l : List UInt8} (x : UInt8) (hl : l.length = 384) (ha : a < 384) (hm : m ≤ 255) (hx : l.getD a 0 = x) (hg : g = w2.heap.size) (hr : FRow w3 g 5 (bvs l ++ List.replicate q (.int .u8 0))) (hb : Below w2.heap.size w2 w3) :
    w3.cell? ⟨g, a, none⟩ = some (.int .u8 (x.toNat : Int)) ∧ w3.frozen? ⟨g, a, none⟩ = false ∧
      Fr w2 (w3.setCell ⟨g, a, none⟩ (.int .u8 (bits .xor .u8 (x.toNat : Int) (m : Int)))) [] ∧
      ∀ n c, (convert 59 9 (.slice (some ⟨g, 0, none⟩) 384 c)).run Try.prog ((w3.setCell ⟨g, a, none⟩ (.int .u8 (bits .xor .u8 (x.toNat : Int) (m : Int)))).drewN n) = .ok (.string ⟨(turnL l a m).toArray⟩) ((w3.setCell ⟨g, a, none⟩ (.int .u8 (bits .xor .u8 (x.toNat : Int) (m : Int)))).drewN n) := by
  have hax : l[a]? = some x := by
    rw [List.getElem?_eq_getElem (by omega)]
    simp [List.getD, List.getElem?_eq_getElem (show a < l.length by omega)] at hx
    rw [hx]
  have e1 : (bvs l ++ List.replicate q (Value.int .u8 0))[a]? = some (.int .u8 (x.toNat : Int)) := by
    rw [List.getElem?_append_left (by rw [bvs_len]; omega), bvs, List.getElem?_map, hax]
    rfl
  have ew : Value.int .u8 (bits .xor .u8 (x.toNat : Int) (m : Int)) = bv (x ^^^ UInt8.ofNat m) := by rw [xor_byte x m hm]; rfl
  refine ⟨(hr.cell a).trans e1, hr.frozen a (by simp [bvs_len]; omega), (Fr.of_below hb).setCell (p := ⟨g, a, none⟩) (.inr (by simp [hg])) _, ?_⟩
  intro n c
  have h4 := hr.set_ a (bv (x ^^^ UInt8.ofNat m))
  have e2 : (bvs l ++ List.replicate q (Value.int .u8 0)).set a (bv (x ^^^ UInt8.ofNat m)) = bvs (turnL l a m) ++ List.replicate q (Value.int .u8 0) := by
    rw [List.set_append_left _ _ (by rw [bvs_len]; omega), turnL, hx]
    simp [bvs, List.map_set]
  rw [e2] at h4
  rw [ew]
  have h5 := (h4.rd (B := (w3.setCell ⟨g, a, none⟩ (bv (x ^^^ UInt8.ofNat m))).heap.size) h4.lt).take 384
  have e3 : (bvs (turnL l a m) ++ List.replicate q (Value.int .u8 0)).take 384 = bvs (turnL l a m) := by
    rw [List.take_append_of_le_length (by rw [bvs_len, turnL_len]; omega), List.take_of_length_le (by rw [bvs_len, turnL_len]; omega)]
  rw [e3] at h5
  exact run_str _ 59 5 Try.underlying59 Try.underlying5 9 Try.underlying9 _ _ (turnL l a m) 384 c (by rw [turnL_len]; omega) h5

set_option maxRecDepth 10000 in
set_option maxHeartbeats 2000000 in
theorem rots_ok (c o : UInt8) (k a m : Nat) (off : Bool) (w : World) (hk : k ≤ 1) (h : a < 384 ∧ 1 ≤ m ∧ m ≤ 255) :
    Calls Try.prog 8 #[.int .u8 (c.toNat : Int), .int .u8 (o.toNat : Int), .int .i64 (k : Int), .int .i64 (a : Int), .int .i64 (m : Int), .bool off] w (YF w) := by
  obtain ⟨lc, hlc⟩ : ∃ la, b384 c = la := ⟨_, rfl⟩
  obtain ⟨lo, hlo⟩ : ∃ lc, b384 o = lc := ⟨_, rfl⟩
  have hc : lc.length = 384 := by rw [← hlc]; exact b384_len c
  have ho : lo.length = 384 := by rw [← hlo]; exact b384_len o
  have HLC := hid hlc
  have HLO := hid hlo
  have HC := hid hc
  have HO := hid ho
  have HB := hid h
  have q1 : decide ((a : Int) < 0) = false := by simp
  have q2 : decide (384 ≤ (a : Int)) = false := by simp; omega
  have q3 : decide ((m : Int) < 1) = false := by simp; omega
  have q4 : decide (255 < (m : Int)) = false := by simp; omega
  have b1 : (a : Int) < 384 := by omega
  have b2 : 1 ≤ m := by omega
  have b3 : m ≤ 255 := by omega
  have hsz : (⟨lc.toArray⟩ : ByteArray).size = 384 := by rw [← sb_len, sb_str]; exact hc
  obtain ⟨x, hx⟩ : ∃ x, lc.getD a 0 = x := ⟨_, rfl⟩
  have hx1 : x.toNat < 256 := UInt8.toNat_lt x
  obtain ⟨lt, hlt⟩ : ∃ t, turnL lc a m = t := ⟨_, rfl⟩
  have HX := hid hx
  have HT := hid hlt
  have HSZ := hid hsz
  clear hx hlt
  clear hlc hlo hc ho h
  obtain ⟨j, hj⟩ : ∃ j, 1 - (k : Int) = j := ⟨_, rfl⟩
  have hwj : IntKind.i64.wrap (1 - (k : Int)) = j := by
    rw [IntKind.wrap_i64]
    omega
  have k0 : decide ((k : Int) < 0) = false := by simp
  have k1 : decide (2 < (k : Int)) = false := by simp; omega
  have k2 : ((k : Int) == 2) = false := by simp; omega
  have HJ := hid hj
  clear hj
  go_enter Try.func8, Try.ntmps8
  go_upto_if 43 with (first
    | (go_at_call 9; refine (awake_calls _).mono ?_; rintro e wa ⟨rfl, hf0⟩)
    | (go_at_call 10; refine (dk_new 3 _ (by omega) (by omega)).mono ?_; rintro e w1 ⟨p, gs, rfl, h1⟩; rw [te_0] at h1; unfold dptr)
    | (go_at_call_of 25 (Value.int IntKind.u8 (c.toNat : Int)); refine (dk_sector_l (by with_reducible assumption) c HLC.out).mono ?_; rintro e w2 ⟨rfl, h2⟩)
    | (go_at_call_of 25 (Value.int IntKind.u8 (o.toNat : Int)); refine (dk_sector_l (by with_reducible assumption) o HLO.out).mono ?_; rintro e w2 ⟨rfl, h2⟩)
    | (go_at_call_of 24 (Value.int IntKind.i64 0); refine (dk_write (S := te0) (by with_reducible assumption) (show 0 ≤ 1048576 by decide) 0 _ (ro_1 HC.out)).mono ?_; rintro e w2 ⟨rfl, h2⟩)
    | (go_at_call_of 24 (Value.int IntKind.i64 1); refine (dk_write (S := ro1 lc) (by with_reducible assumption) (show 1 ≤ 1048576 by decide) 1 _ (ro_2 HC.out)).mono ?_; rintro e w2 ⟨rfl, h2⟩)
    | (go_at_call_of 24 (Value.int IntKind.i64 2); refine (dk_write (S := ro3 lc) (by with_reducible assumption) (show 3 ≤ 1048576 by decide) 2 _ (ro_4 HO.out)).mono ?_; rintro e w2 ⟨rfl, h2⟩)
    | (go_at_call 26; refine (dk_flush (S := ro2 lc) (by with_reducible assumption) (show 2 ≤ 1048576 by decide) (ro_3 HC.out)).mono ?_; rintro e w2 ⟨rfl, h2⟩))
  go_cut [] from 44 to 160 (fun wx => ∃ on, Dk wa.heap.size wa wx p gs (ro4 lc lo on))
  case first =>
    cases off
    · go_wp2_with fail
      go_meet
      case rel => exact ⟨_, by with_reducible assumption⟩
    · go_wp2_with (first
        | (go_at_call 22; refine (dk_cut (S := ro4 lc lo true) (by with_reducible assumption) ro_5).mono ?_; rintro e w2 ⟨rfl, h2⟩))
      go_meet
      case rel => exact ⟨_, by with_reducible assumption⟩
  case rest =>
  obtain ⟨on, h2⟩ := hcut
  go_wp2_with (first
    | (go_at_call 30; refine (dk_rot (S := ro4 lc lo _) (by with_reducible assumption) k a m (rk_0 hk HB.out HT.out)).mono ?_; rintro e w2 ⟨rfl, h2⟩)
    | (go_at_call 25; refine (dk_sector_l (by with_reducible assumption) c HLC.out).mono ?_; rintro e w2 ⟨rfl, h2⟩)
    | (with_reducible refine wpl_bytes rfl (.tmp 105) 9 59 rfl 5 Try.underlying9 Try.underlying59 Try.underlying5 ⟨lc.toArray⟩ rfl ?_; intro g cc q w3 hg hcc hfr hbe; rw [sb_str] at hfr; obtain ⟨z1, z2, z3, z4⟩ := turn_facts (m := m) x HC.out HB.out.1 HB.out.2.2 HX.out hg.out hfr hbe; rw [HT.out] at z4; have HD := Dk.drew (Dk.fr h2 z3); clear hfr hbe))
  generalize (w3.setCell ⟨g, a, none⟩ (.int .u8 (bits .xor .u8 (x.toNat : Int) (m : Int)))) = w4 at *
  obtain ⟨cv, hcv⟩ : ∃ cv : Sem Value, convert 59 9 (.slice (some ⟨g, 0, none⟩) 384 cc) = cv := ⟨_, rfl⟩
  have z5 := z4 1 cc
  rw [hcv] at z5
  have z6 : cv.run Try.prog w4.drew = .ok (.string ⟨lt.toArray⟩) w4.drew := z5
  clear z1 z2 z3 z4 z5
  go_region_held (fun _ => True) (trivial) (first
    | (go_at_call_of 21 (Value.int IntKind.i64 (k : Int)); refine (dk_lasts (S := rk k lc lo lt _) (by with_reducible assumption) k (rk_0a hk)).mono ?_; rintro e w2 ⟨rfl, rfl⟩)
    | (go_at_call_of 21 (Value.int IntKind.i64 j); refine (dk_lasts (S := rk k lc lo lt _) (by with_reducible assumption) j (rk_0b hk HJ.out)).mono ?_; rintro e w2 ⟨rfl, rfl⟩)
    | (go_at_call 25; refine (dk_sector_l (by with_reducible assumption) c HLC.out).mono ?_; rintro e w2 ⟨rfl, h2⟩)
    | (go_at_call_of 19 (Value.int IntKind.i64 (k : Int)); refine (dk_marked (S := rk k lc lo lt _) (by with_reducible assumption) k (rk_0m hk)).mono ?_; rintro e w2 ⟨rfl, rfl⟩)
    | (go_at_call_of 19 (Value.int IntKind.i64 j); refine (dk_marked (S := rk k lc lo lt _) (by with_reducible assumption) j (rk_0n hk HJ.out)).mono ?_; rintro e w2 ⟨rfl, rfl⟩)
    | (go_at_call 30; refine (dk_rot (S := rk k lc lo lt _) (by with_reducible assumption) k a m (rk_0t hk HB.out)).mono ?_; rintro e w2 ⟨rfl, h2⟩)
    | (go_at_call 15; refine (dk_pending (S := rk k lc lo lt _) (by with_reducible assumption)).mono ?_; rintro e w2 ⟨rfl, rfl⟩))
  all_goals go_wp2_with fail
  all_goals (go_ret; exact ⟨rfl, hf0.trans (Dk.frame (by with_reducible assumption)) (by simp)⟩)
end Go.Proofs.Ytcnokhjehiamlaa
