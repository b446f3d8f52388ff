/-
  The walk of CrcTells.
-/
import Derived.Test.YthkbalodpheomaaLaw
namespace Go.Proofs.Ythkbalodpheomaa
open Go.RowKit

/-- the text with the first k of four bytes turned -/
def mix (l : List UInt8) (a : Nat) (m : BitVec 32) : Nat → List UInt8
  | 0 => l
  | k + 1 => (mix l a m k).set (a + k) (l.getD (a + k) 0 ^^^ byteOf m k)
theorem mix_len (l : List UInt8) (a : Nat) (m : BitVec 32) : ∀ k, (mix l a m k).length = l.length
  | 0 => rfl
  | k + 1 => by rw [mix, List.length_set, mix_len l a m k]
theorem mix_at (l : List UInt8) (a : Nat) (m : BitVec 32) (j : Nat) : ∀ k, k ≤ j → (mix l a m k)[a + j]? = l[a + j]?
  | 0, _ => rfl
  | k + 1, h => by rw [mix, List.getElem?_set_ne (by omega), mix_at l a m j k (by omega)]
theorem mix_four (p z : List UInt8) (c0 c1 c2 c3 : UInt8) (m : BitVec 32) :
    mix (p ++ [c0, c1, c2, c3] ++ z) p.length m 4 = p ++ [c0 ^^^ byteOf m 0, c1 ^^^ byteOf m 1, c2 ^^^ byteOf m 2, c3 ^^^ byteOf m 3] ++ z := by
  have hs : ∀ (q : List UInt8) (j : Nat) (v : UInt8), (p ++ q).set (p.length + j) v = p ++ q.set j v := fun q j v => by
    rw [List.set_append, if_neg (by omega)]
    simp
  have hg : ∀ (q : List UInt8) (j : Nat), (p ++ q).getD (p.length + j) 0 = q.getD j 0 := fun q j => by
    simp [List.getD, List.getElem?_append_right]
  simp only [mix, List.append_assoc, hs, hg]
  rfl
theorem cut_four (l : List UInt8) (a : Nat) (h : a + 4 ≤ l.length) : ∃ p c0 c1 c2 c3 z, l = p ++ [c0, c1, c2, c3] ++ z ∧ p.length = a := by
  refine ⟨l.take a, l[a], l[a + 1], l[a + 2], l[a + 3], l.drop (a + 4), ?_, by simp; omega⟩
  conv => lhs; rw [← List.take_append_drop a l]
  rw [List.append_assoc]
  congr 1
  rw [List.drop_eq_getElem_cons (by omega), List.drop_eq_getElem_cons (by omega), List.drop_eq_getElem_cons (by omega), List.drop_eq_getElem_cons (by omega)]
  rfl
/-- what the law asks of the sums -/
theorem mix_tells (r : BitVec 32) (l : List UInt8) (a : Nat) (h : a + 4 ≤ l.length) (m : BitVec 32) : byAll r (mix l a m 4) = byAll r l ↔ m = 0#32 := by
  obtain ⟨p, c0, c1, c2, c3, z, rfl, rfl⟩ := cut_four l a h
  rw [mix_four]
  exact tells r p z (fun k => match k with | 0 => c0 | 1 => c1 | 2 => c2 | _ => c3) m
theorem addS_tells (x : BitVec 32) (l : List UInt8) (a : Nat) (h : a + 4 ≤ l.length) (m : BitVec 32) : addS x (mix l a m 4) = addS x l ↔ m = 0#32 := by
  rw [← mix_tells (~~~x) l a h m]
  unfold addS
  exact BitVec.not_inj
theorem turn_code (c : UInt8) (m : BitVec 32) (k : Nat) : bits .xor .u8 (c.toNat : Int) ((m.toNat : Int) / 2 ^ (8 * k) % 256) = (((c ^^^ byteOf m k).toNat : Nat) : Int) := by
  have e : ((m.toNat : Int) / 2 ^ (8 * k) % 256) = (((m >>> (8 * k)).setWidth 8).toNat : Int) := by
    rw [BitVec.toNat_setWidth, BitVec.toNat_ushiftRight, Nat.shiftRight_eq_div_pow]
    simp
  rw [e]
  exact xor8 c.toBitVec _

set_option maxHeartbeats 1600000 in
theorem tells_out (s : ByteArray) (at_ : Int) (m : BitVec 32) (w : World) (hs : s.size ≤ 140737488351232) (h : ¬ (4 ≤ s.size ∧ 0 ≤ at_ ∧ at_ ≤ (s.size : Int) - 4)) :
    Calls Try.prog 5 #[.string s, .int .i64 at_, .int .u32 (m.toNat : Int)] w (Yes w) := by
  by_cases h1 : (s.size : Int) < 4
  · clear h
    go_enter Try.func5, Try.ntmps5
    go_wp2_with (go_at_call 8; refine (awake_any _).mono ?_; rintro e w1 ⟨rfl, hb1⟩)
    go_ret
    exact ⟨rfl, hb1⟩
  · by_cases h2 : at_ < 0
    · clear h
      go_enter Try.func5, Try.ntmps5
      go_wp2_with (go_at_call 8; refine (awake_any _).mono ?_; rintro e w1 ⟨rfl, hb1⟩)
      go_ret
      exact ⟨rfl, hb1⟩
    · have h3 : (s.size : Int) - 4 < at_ := by omega
      clear h
      go_enter Try.func5, Try.ntmps5
      go_wp2_with (go_at_call 8; refine (awake_any _).mono ?_; rintro e w1 ⟨rfl, hb1⟩)
      go_ret
      exact ⟨rfl, hb1⟩

set_option maxHeartbeats 1600000 in
theorem tells_in (s : ByteArray) (a : Nat) (m : BitVec 32) (w : World) (hs : s.size ≤ 140737488351232) (ha : a + 4 ≤ s.size) :
    Calls Try.prog 5 #[.string s, .int .i64 a, .int .u32 (m.toNat : Int)] w (Yes w) := by
  have hm : m.toNat < 4294967296 := m.isLt
  have HS := hid (sb_len s)
  have h1 : decide ((s.size : Int) < 4) = false := by simp; omega
  have h3 : decide ((s.size : Int) - 4 < a) = false := by simp; omega
  go_enter Try.func5, Try.ntmps5
  go_wp2_with (first
    | (go_at_call 8; refine (awake_any _).mono ?_; rintro e w1 ⟨rfl, hb1⟩)
    | (with_reducible refine wpl_bytes rfl _ _ _ rfl 5 Try.underlying9 Try.underlying28 Try.underlying5 s rfl ?_; intro g c q w2 HG HC HR HB))
  have hb2 : Below w.heap.size w w2 := hb1.trans (HB.mono hb1.size)
  have hg1 : w.heap.size ≤ g := by have := HG.out; have := hb1.size; omega
  have hfirst : FRow w2 g 5 (bvs (mix (sb s) a m 0) ++ List.replicate q (.int .u8 0)) := HR
  have HB2 := hid hb2
  have HF := hid hfirst
  clear hb2 hfirst HR HB hb1
  go_loopw [8] (fun i wr => ∃ k : Nat, k ≤ 4 ∧ i = .int .i64 k ∧ FRow wr g 5 (bvs (mix (sb s) a m k) ++ List.replicate q (.int .u8 0)) ∧ Below w.heap.size w wr) (fun i _ => 4 - (intOf i).toNat)
  case atStart => exact ⟨0, by omega, rfl, HF.out, HB2.out⟩
  case round =>
    obtain ⟨k, hk, rfl, hr, hbe⟩ := hrel
    by_cases hlt : k < 4
    · have hl1 : a + k < (mix (sb s) a m k).length := by rw [mix_len, HS.out]; omega
      have hl2 : a + k < (sb s).length := by rw [HS.out]; omega
      have hc := hr.cell (a + k)
      rw [List.getElem?_append_left (by rw [bvs_len]; exact hl1)] at hc
      simp only [bvs, List.getElem?_map, mix_at _ _ _ _ _ (Nat.le_refl k), List.getElem?_eq_getElem hl2, Option.map_some, bv] at hc
      have hf := hr.frozen (a + k) (by rw [List.length_append, bvs_len]; omega)
      have hst := hr.set_ (a + k) (bv ((sb s)[a + k] ^^^ byteOf m k))
      rw [List.set_append_left (a + k) _ (by rw [bvs_len]; exact hl1)] at hst
      have hmx : (bvs (mix (sb s) a m k)).set (a + k) (bv ((sb s)[a + k] ^^^ byteOf m k)) = bvs (mix (sb s) a m (k + 1)) := by
        rw [mix, bvs, bvs, List.map_set, List.getD, List.getElem?_eq_getElem hl2]; rfl
      rw [hmx] at hst
      generalize (sb s)[a + k] = b at hc hst hmx
      have htc := turn_code b m k
      have hb2 := UInt8.toNat_lt b
      have hbe2 := hbe.setCell (p := ⟨g, a + k, none⟩) hg1 (bv (b ^^^ byteOf m k))
      clear hmx
      generalize b ^^^ byteOf m k = b2 at htc hst hbe2
      have HST := hid hst
      have HTC := hid htc
      have HBE := hid hbe2
      clear hst htc hr hbe hbe2 hl1 hl2
      go_wp2_with fail
      have w1' := IntWalk.i64_in ((a : Int) + k) (by omega)
      have w2' := IntWalk.i64_in ((8 : Int) * k) (by omega)
      have w3' : (0 : Int) ≤ (a : Int) + k := by omega
      have w4' : (a : Int) + k < s.size := by omega
      have w5' : ((a : Int) + k).toNat = a + k := by omega
      have w6' : (0 : Int) ≤ 8 * (k : Int) := by omega
      have w7' : ((8 : Int) * k).toNat = 8 * k := by omega
      have w8' : 8 * (k : Int) ≤ 32 := by omega
      go_region
      clear w1' w2' w3' w4' w5' w6' w7' w8' hc hf
      rw [HTC.out]
      go_wp2_with fail
      go_roundw
      case rel => exact ⟨k + 1, by omega, by go_num, HST.out, HBE.out.drew⟩
      case measure => simp [intOf]; omega
    · obtain rfl : k = 4 := by omega
      have hlen : (mix (sb s) a m 4).length = s.size := by rw [mix_len, HS.out]
      have hrd : Rd wr (g + 1) (some ⟨g, 0, none⟩) (bvs (mix (sb s) a m 4)) := by
        have h := (hr.rd (B := g + 1) (by omega)).take (bvs (mix (sb s) a m 4)).length
        rwa [List.take_left] at h
      have P1 : ∀ W : World, Calls Try.prog 11 #[.string ⟨(mix (sb s) a m 4).toArray⟩] W fun e W' => e = .returned (.int .u32 ((addS 0#32 (mix (sb s) a m 4)).toNat : Int)) ∧ Below W.heap.size W W' := by
        intro W
        have h := sum_calls ⟨(mix (sb s) a m 4).toArray⟩ W (by rw [← sb_len, sb_mk, hlen]; omega)
        rw [sb_mk] at h
        exact h
      have ht := addS_tells 0#32 (sb s) a (by rw [HS.out]; exact ha) m
      generalize hM : mix (sb s) a m 4 = M at *
      have H1 := hid P1
      have HL := hid hlen
      have HBe := hid hbe
      clear P1 hM hlen hr hbe HF HB2 h1 h3
      by_cases h0 : m = 0#32
      · have e := ht.2 h0
        subst h0
        clear ht
        rw [e] at H1
        clear e
        go_wp2_with (with_reducible refine wpl_str rfl _ _ _ rfl 5 Try.underlying28 Try.underlying5 Try.underlying9 (some ⟨g, 0, none⟩) s.size c rfl (g + 1) M ?_ (hid hrd) (hid HL.out.symm))
        refine (H1.out _).mono ?_
        rintro e w3 ⟨rfl, hb3⟩
        go_wp2_with fail
        refine (sum_calls _ _ (by omega)).mono ?_
        rintro e w4 ⟨rfl, hb4⟩
        go_wp2_with fail
        go_ret
        exact ⟨rfl, (HBe.out.trans (hb3.mono HBe.out.size)).trans (hb4.mono (Nat.le_trans HBe.out.size hb3.size))⟩
      · have n1 := toNat_ne _ _ (fun e => h0 (ht.1 e))
        have n2 := toNat_ne m 0#32 h0
        rw [u32_zero] at n2
        clear ht h0
        go_wp2_with (with_reducible refine wpl_str rfl _ _ _ rfl 5 Try.underlying28 Try.underlying5 Try.underlying9 (some ⟨g, 0, none⟩) s.size c rfl (g + 1) M ?_ (hid hrd) (hid HL.out.symm))
        refine (H1.out _).mono ?_
        rintro e w3 ⟨rfl, hb3⟩
        go_wp2_with fail
        refine (sum_calls _ _ (by omega)).mono ?_
        rintro e w4 ⟨rfl, hb4⟩
        go_wp2_with fail
        go_ret
        exact ⟨rfl, (HBe.out.trans (hb3.mono HBe.out.size)).trans (hb4.mono (Nat.le_trans HBe.out.size hb3.size))⟩

theorem tells_any (s : ByteArray) (at_ : Int) (m : BitVec 32) (w : World) (hs : s.size ≤ 140737488351232) (h1 : -9223372036854775808 ≤ at_) (h2 : at_ ≤ 9223372036854775807) :
    Calls Try.prog 5 #[.string s, .int .i64 at_, .int .u32 (m.toNat : Int)] w (Yes w) := by
  by_cases h : 4 ≤ s.size ∧ 0 ≤ at_ ∧ at_ ≤ (s.size : Int) - 4
  · obtain ⟨a, rfl⟩ := Int.eq_ofNat_of_zero_le h.2.1
    exact tells_in s a m w hs (by omega)
  · exact tells_out s at_ m w hs h
end Go.Proofs.Ythkbalodpheomaa
